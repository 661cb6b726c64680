"""Worlds: houses, disks, a bag and clients, moved by told events."""

from halvesmeet.base.checks import check_circle, check_number
from halvesmeet.base.values import MAX_CLIENTS, MAX_NUMBER, are_indices, is_client, is_house, is_within, ordered
from halvesmeet.errors import InvalidDeed, InvalidEvent, InvalidWorld, Refused, TooMany
from halvesmeet.house.memory import check_rule
from halvesmeet.store.deeds import by_keys, is_deed, word_of
from halvesmeet.world.record import RECORD, are_one_row, decided_pairs
from halvesmeet.world.scenes import behind_event, choices_of, disks_of, first_parts, may_be

MAX_EVENTS = 3000
MAX_FOLD = 12

MOST_DEEDS = 12
# the parts that equal worlds have in common, beside the record and the settings
PARTS = ("houses", "fallen", "bag", "clients", "history")


def _has_index(event):
    return len(event) == 2 and is_within(event[1], 0, MAX_NUMBER)


def _has_house(event):
    return len(event) == 2 and is_house(event[1])


def _is_fall(event):
    return len(event) == 3 and is_house(event[1]) and are_indices(event[2], MAX_NUMBER)


def _is_call(event):
    return len(event) == 3 and is_client(event[1]) and is_deed(event[2])


def _is_again(event):
    return len(event) == 3 and is_client(event[1]) and is_house(event[2])


def _is_leave(event):
    return len(event) == 2 and is_client(event[1])


EVENT_FORMS = {
    "take": _has_index, "lose": _has_index, "double": _has_index, "beat": _has_house, "sync": _has_house,
    "fall": _is_fall, "rise": _has_house, "call": _is_call, "again": _is_again, "leave": _is_leave}


def is_event(value):
    """Whether the value has the form of an event."""
    word = word_of(value)
    if word not in EVENT_FORMS:
        return False
    form = EVENT_FORMS[word]
    return form(value)


def are_events(value):
    """Whether the value is a tuple of events."""
    return isinstance(value, tuple) and all([is_event(event) for event in value])


class World:
    """Nine houses, their disks, the bag, clients, and what has happened; a world never changes."""

    def __init__(self, circle, clients, *, fold=6, without=None):
        check_circle(circle)
        check_number(clients, 1, MAX_CLIENTS)
        check_number(fold, 1, MAX_FOLD)
        check_rule(without)
        self._settings = (circle, clients, fold, without)
        self._parts = first_parts(self._settings)
        self._events = ()

    @property
    def circle(self):
        """The first circle."""
        return self._settings[0]

    @property
    def fold(self):
        """How many decided entries are folded."""
        return self._settings[2]

    @property
    def without(self):
        """The rule that is left out, or None."""
        return self._settings[3]

    @property
    def houses(self):
        """The houses by their numbers, None for those that are down."""
        return by_keys(self._parts["houses"])

    @property
    def disks(self):
        """The disks of all houses, up or down, by their numbers."""
        return disks_of(self._parts)

    @property
    def bag(self):
        """The letters that went, and were not taken or lost."""
        return self._parts["bag"]

    @property
    def clients(self):
        """The tuple of the clients."""
        return self._parts["clients"]

    @property
    def history(self):
        """The calls and the answers, in their sequence."""
        return self._parts["history"]

    @property
    def events(self):
        """The events that were done."""
        return self._events

    @property
    def decided(self):
        """The ascending tuple of the pairs of an index and an entry that some house had decided there."""
        return decided_pairs(self._parts["decided"])

    @property
    def begins(self):
        """For each epoch the length with which it was begun first."""
        return by_keys(self._parts["begins"])

    @property
    def circles(self):
        """For each epoch its circle."""
        return by_keys(self._parts["circles"])

    @property
    def rows(self):
        """For each pair of an epoch and a term that was led the entries of its row."""
        return by_keys(self._parts["rows"])

    @property
    def firsts(self):
        """For each of these pairs how many entries the row had at first."""
        return by_keys(self._parts["firsts"])

    @property
    def votes(self):
        """For each triple of an epoch, a term and a house how many entries the house has accepted there."""
        return by_keys(self._parts["votes"])

    @property
    def promises(self):
        """For each pair of an epoch and a house the greatest term that it has promised."""
        return by_keys(self._parts["promises"])

    @property
    def answers(self):
        """The ascending tuple of all answers that were sent: client, number, answer, length."""
        return ordered(tuple(self._parts["answers"]))

    def can_be(self, event):
        """Whether an event can be next."""
        _check_event(event)
        return may_be(self._parts, event)

    def done(self, event):
        """The world behind an event."""
        _check_event(event)
        return _behind(self, event)

    def run(self, events):
        """The world behind some events, one behind the other."""
        check_events(events)
        later = self
        for event in events:
            later = _behind(later, event)
        return later

    def choices(self, *, deeds=()):
        """The events that can be next, ascending; of calls and falls just some."""
        if not isinstance(deeds, tuple) or len(deeds) > MOST_DEEDS or not all([is_deed(deed) for deed in deeds]):
            raise InvalidDeed("deeds to choose from are a tuple of at most twelve deeds")
        return ordered(tuple(choices_of(self._parts, deeds)))

    def __len__(self):
        return len(self._events)

    def __eq__(self, other):
        return isinstance(other, World) and self._settings == other._settings and _has_same_parts(self, other)

    def __str__(self):
        return f"world of {len(self.circle)} houses, {len(self._events)} events, {len(self.bag)} letters"


class LaterWorld(World):
    """A world behind some events: it does not begin with nine houses anew, as this takes as long as an event."""

    def __init__(self, settings, parts, events):
        # made by moved alone
        self._settings = settings
        self._parts = parts
        self._events = events


def _has_same_parts(one, other):
    """Whether two worlds have equal parts."""
    return all([one._parts[name] == other._parts[name] for name in PARTS + RECORD])


def _behind(world, event):
    """The world behind an event, if it can be next and there is room for one more."""
    if not may_be(world._parts, event):
        raise Refused(("next", event))
    if len(world.events) >= MAX_EVENTS:
        raise TooMany(MAX_EVENTS)
    return moved(world, event)


def moved(world, event):
    """The world behind an event that can be next, however many there were."""
    return LaterWorld(world._settings, behind_event(world._parts, event, world._settings), world.events + (event,))


def beginning_of(world):
    """The world with the same settings at its beginning."""
    circle, clients, fold, without = world._settings
    return World(circle, clients, fold=fold, without=without)


def check_world(value):
    """Refuses all but worlds."""
    if not isinstance(value, World):
        raise InvalidWorld("a world is an object of the class World")


def _check_event(event):
    if not is_event(event):
        raise InvalidEvent("an event has a word, and what it happens to")


def check_events(events):
    """Refuses all but tuples of events."""
    if not are_events(events):
        raise InvalidEvent("events are a tuple of events")


def is_one_row(world):
    """Whether what is decided is one row."""
    check_world(world)
    return are_one_row(world._parts["decided"])
