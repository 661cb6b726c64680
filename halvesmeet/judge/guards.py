"""Why each rule of the houses is needed: runs that break without it."""

from halvesmeet.base.values import MAX_CLIENTS, is_circle, is_within
from halvesmeet.errors import InvalidOperation, Refused, UnknownName
from halvesmeet.judge.orders import MAX_SHORT, history_paper, names
from halvesmeet.judge.runs import told_run
from halvesmeet.world.worlds import MAX_FOLD, World, are_events, is_one_row

RULES = ("sync", "life", "promise", "best", "whole", "half", "term", "round", "carry")

MOST_RUN = 400


def is_run(value):
    """Whether the value has the form of a run."""
    if not isinstance(value, tuple) or len(value) != 4:
        return False
    circle, clients, fold, events = value
    if not is_circle(circle) or not is_within(clients, 1, MAX_CLIENTS) or not is_within(fold, 1, MAX_FOLD):
        return False
    return isinstance(events, tuple) and len(events) <= MOST_RUN and are_events(events)


def _check_run(run):
    if not is_run(run):
        raise InvalidOperation("a run has a circle, a number of clients, when to fold, and at most 400 events")


def world_of_run(run, *, without=None):
    """The world behind a run."""
    _check_run(run)
    if without is not None and without not in RULES:
        raise UnknownName(without)
    circle, clients, fold, events = run
    world = World(circle, clients, fold=fold, without=without)
    for index, event in enumerate(events):
        if not world.can_be(event):
            raise Refused(("next", index))
        world = world.done(event)
    return world


def what_breaks(run, *, without=None):
    """What is broken in the world behind a run: the row, the order, or nothing."""
    world = world_of_run(run, without=without)
    indices = [index for index, _ in world.decided]
    for index, other in zip(indices, indices[1:]):
        if index == other:
            return "rows", index
    return ("order",) if _has_no_order(world) else ("nothing",)


def _has_no_order(world):
    """Whether the history of a world is short and has no order."""
    return len(names(world.history)) <= MAX_SHORT and history_paper(world.history)[0] == "table"


def broken_run(word):
    """A run that breaks without a rule."""
    _check_rule(word)
    return told_run(word)


def is_broken_run(word, value):
    """Whether the value is a run that breaks without a rule."""
    _check_rule(word)
    if not is_run(value):
        return False
    try:
        world = world_of_run(value, without=word)
    except Refused:
        return False
    return not is_one_row(world) or _has_no_order(world)


def _check_rule(word):
    if word not in RULES:
        raise UnknownName(word)


def kept_part(run):
    """The run with the events alone that can be next with all rules, each behind the kept ones ahead of it."""
    _check_run(run)
    circle, clients, fold, events = run
    world = World(circle, clients, fold=fold)
    for event in events:
        if world.can_be(event):
            world = world.done(event)
    return circle, clients, fold, world.events
