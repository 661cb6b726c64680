"""Texts of worlds and histories, and runs from which no event can be left out."""

from halvesmeet.base.values import MAX_CLIENTS, MAX_NEST, is_circle, is_plain_within, is_within, read_plain, write_plain
from halvesmeet.errors import InvalidHistory, InvalidOperation, ParseError, Refused
from halvesmeet.house.memory import RULES
from halvesmeet.judge.orders import check_history, is_history
from halvesmeet.world.clients import is_row
from halvesmeet.world.worlds import MAX_EVENTS, MAX_FOLD, World, beginning_of, check_world, is_event

MOST_SIGNS = 900000

# the words of the first line of a world, each ahead of what it tells
HEAD_WORDS = ("world", "clients", "fold", "without")


def write_world(world):
    """The text of a world."""
    check_world(world)
    without = "." if world.without is None else world.without
    head = f"world {write_plain(world.circle)} clients {len(world.clients)} fold {world.fold} without {without}"
    return _text_of_lines([head] + [write_plain(event) for event in world.events])


def _text_of_lines(lines):
    return "".join([line + "\n" for line in lines])


def _lines_of(text):
    """The list of the lines of a text, what stands behind the last newline being the last one."""
    if not isinstance(text, str) or len(text) > MOST_SIGNS:
        raise ParseError(None)
    return text.split("\n")


def _value_at(line, index):
    """The plain value whose text is a line, or stands in it."""
    try:
        return read_plain(line)
    except ParseError:
        raise ParseError(index) from None


def _check_end(lines):
    """Refuses lines of which the last one is not empty."""
    if lines[-1] != "":
        raise ParseError(len(lines) - 1)


def read_world(text):
    """The world with a text."""
    lines = _lines_of(text)
    world = _begun_with(lines[0])
    for index in range(1, len(lines) - 1):
        event = _value_at(lines[index], index)
        if not is_event(event) or not world.can_be(event) or len(world) >= MAX_EVENTS:
            raise ParseError(index)
        world = world.done(event)
    _check_end(lines)
    return world


def _begun_with(line):
    """The world at its beginning that the first line of a text tells."""
    words = line.split(" ")
    if len(words) != 2 * len(HEAD_WORDS) or tuple(words[::2]) != HEAD_WORDS:
        raise ParseError(0)
    circle, clients, fold = [_value_at(word, 0) for word in words[1:7:2]]
    if not is_circle(circle) or not is_within(clients, 1, MAX_CLIENTS) or not is_within(fold, 1, MAX_FOLD):
        raise ParseError(0)
    if words[7] != "." and words[7] not in RULES:
        raise ParseError(0)
    return World(circle, clients, fold=fold, without=None if words[7] == "." else words[7])


def is_world_text(value):
    """Whether the value is the text of a world."""
    try:
        read_world(value)
    except ParseError:
        return False
    return True


def write_history(history):
    """The text of a history."""
    check_history(history)
    return _text_of_lines([write_plain(row) for row in history])


def read_history(text):
    """The history with a text."""
    lines = _lines_of(text)
    rows = []
    for index in range(len(lines) - 1):
        row = _value_at(lines[index], index)
        # a history is nested once more than its members
        if not is_row(row) or not is_plain_within(row, MAX_NEST - 1):
            raise ParseError(index)
        rows.append(row)
    _check_end(lines)
    history = tuple(rows)
    if not is_history(history):
        raise InvalidHistory("these calls and answers are no history together")
    return history


def tight(world, does_break):
    """The events of a run that still breaks what a world breaks, and from which no single event can be left out."""
    check_world(world)
    if does_break(world) is not True:
        raise InvalidOperation("the world breaks nothing")
    events = world.events
    many = len(events) + 1
    while len(events) < many:
        many = len(events)
        events = _shortened(beginning_of(world), events, does_break)
    return events


def _shortened(beginning, events, does_break):
    """The events behind leaving out one after another, from the last one to the first one, wherever it can be."""
    worlds = [beginning]
    for event in events:
        worlds.append(worlds[-1].done(event))
    behind = ()
    for index in range(len(events) - 1, -1, -1):
        later = _run_if_can_be(worlds[index], behind)
        if later is None or does_break(later) is not True:
            behind = (events[index],) + behind
    return behind


def _run_if_can_be(world, events):
    """The world behind some events, None if one of them cannot be next."""
    try:
        return world.run(events)
    except Refused:
        return None
