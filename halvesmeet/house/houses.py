"""Houses: a book, facts, a memory, and what is held until the next sync."""

from halvesmeet.base.checks import check_circle, check_house, check_number
from halvesmeet.disk.blocks import check_disk
from halvesmeet.disk.halves import Book
from halvesmeet.errors import InvalidCircle, InvalidFacts, InvalidOperation, Refused, TooMany
from halvesmeet.house.events import turn_of_beat, turn_of_letter
from halvesmeet.house.facts import begin, facts_until_wrong, records_of_facts
from halvesmeet.house.memory import Memory, check_rule
from halvesmeet.net.letters import receiver
from halvesmeet.store.states import State

MOST_FOLDED = 12


class House:
    """A house that is up; a house never changes, each event leads to another one."""

    def __init__(self, number, book, facts, memory, settings):
        # made by fresh and risen alone, which have checked all this
        self._number = number
        self._book = book
        self._facts = facts
        self._memory = memory
        self._held = ()
        self._pending = ()
        self._fold, self._without = settings

    @classmethod
    def fresh(cls, number, circle=None, *, fold=6, without=None):
        """A house with an empty disk, or one that has begun the epoch 0 with a circle."""
        check_house(number)
        if circle is not None:
            _check_circle_of(number, circle)
        _check_settings(fold, without)
        book = Book.fresh()
        facts = None
        if circle is not None:
            facts, record = begin(None, 0, circle, State.first())
            book = book.turned((record,)).synced()
        return cls(number, book, facts, Memory.risen(facts), (fold, without))

    @classmethod
    def risen(cls, number, disk, *, fold=6, without=None):
        """A house that rises with a disk."""
        check_house(number)
        check_disk(disk)
        _check_settings(fold, without)
        book = Book(disk, without=without)
        if disk.waiting != ():
            raise InvalidOperation("something waits on the disk")
        facts = facts_until_wrong(book.records)
        if facts is not None and number not in facts.circle:
            raise InvalidOperation("the house is not of the circle on its disk")
        return cls(number, _turned_if_full(book, facts), facts, Memory.risen(facts), (fold, without))

    @property
    def number(self):
        """The number of the house."""
        return self._number

    @property
    def book(self):
        """The book on its disk."""
        return self._book

    @property
    def facts(self):
        """The facts, None without an epoch."""
        return self._facts

    @property
    def memory(self):
        """The memory."""
        return self._memory

    @property
    def held(self):
        """The letters that go with the next sync."""
        return self._held

    @property
    def pending(self):
        """The records that were made since the last sync."""
        return self._pending

    @property
    def fold(self):
        """How many decided entries behind the base are folded."""
        return self._fold

    @property
    def without(self):
        """The rule that is left out, or None."""
        return self._without

    @property
    def role(self):
        """The role of the memory."""
        return self._memory.role

    @property
    def decided(self):
        """The number of the entries that are decided."""
        return self._memory.decided

    def taken(self, letter):
        """The house behind a letter."""
        if receiver(letter) != ("house", self._number):
            raise InvalidOperation("the letter goes elsewhere")
        try:
            return _behind(self, turn_of_letter(self._facts, self._memory, self._number, letter, _settings_of(self)))
        except (Refused, TooMany, InvalidFacts):
            # no room for a record, or a lay that cannot be done: as if the letter had been lost
            return self

    def beaten(self):
        """The house behind a beat."""
        try:
            return _behind(self, turn_of_beat(self._facts, self._memory, self._number, _settings_of(self)))
        except (Refused, TooMany, InvalidFacts):
            return self

    def synced(self):
        """The house behind a sync, and the letters that go."""
        later = _copy_of(self)
        later._book = _turned_if_full(self._book.synced(), self._facts)
        later._held = ()
        later._pending = ()
        return later, self._held

    def released(self):
        """The house without the letters that it held, and these letters; nothing is synced."""
        later = _copy_of(self)
        later._held = ()
        return later, self._held

    def fallen(self, kept):
        """The disk behind a fall that keeps some of the waiting puts."""
        return self._book.fallen(kept)

    def __eq__(self, other):
        return isinstance(other, House) and _parts_of(self) == _parts_of(other)

    def __str__(self):
        if self._facts is None:
            return f"house {self._number} {self._memory.role}"
        return f"house {self._number} {self._memory.role}, {self._facts}"


def _check_circle_of(number, circle):
    check_circle(circle)
    if number not in circle:
        raise InvalidCircle("the circle lacks the house")


def _check_settings(many, without):
    check_number(many, 1, MOST_FOLDED)
    check_rule(without)


def _settings_of(house):
    return house.fold, house.without


def _parts_of(house):
    """What equal houses have in common."""
    return (house.number, house.book, house.facts, house.memory, house.held, house.pending, house.fold, house.without)


def _copy_of(house):
    """A house that is equal, of which some parts can be set before anybody sees it."""
    later = House(house.number, house.book, house.facts, house.memory, _settings_of(house))
    later._held = house.held
    later._pending = house.pending
    return later


def _behind(house, turn):
    """The house behind a turn."""
    records, memory, facts, letters = turn
    later = _copy_of(house)
    for record in records:
        later._book = _book_with(later._book, record)
    later._facts = facts
    later._memory = memory
    later._held = house.held + letters
    later._pending = house.pending + records
    return later


def _book_with(book, record):
    """The book with one more record, the first one being put by turning."""
    return book.turned((record,)) if book.half is None else book.added(record)


def _turned_if_full(book, facts):
    """The book of a house behind a sync, or as it rises."""
    if facts is None or not book.is_full:
        return book
    return book.turned(records_of_facts(facts))
