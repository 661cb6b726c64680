"""Facts: what a house keeps on its disk, and the steps and records that change it."""

from halvesmeet.base.checks import check_circle, check_number
from halvesmeet.base.values import is_within
from halvesmeet.disk.journal import check_records
from halvesmeet.errors import (
    InvalidCircle, InvalidDeed, InvalidFacts, InvalidNumber, InvalidRecord, InvalidState, Refused, TooMany)
from halvesmeet.store.deeds import check_entries, is_stop
from halvesmeet.store.states import MAX_LENGTH, State, check_state, run_entries, state_of_parts

MAX_ENTRIES = 64


class Facts:
    """The epoch, the promised and the accepted term, and the row of a house; facts never change."""

    def __init__(self, epoch, circle, promised, accepted, base, entries):
        check_number(epoch, 0)
        check_circle(circle)
        check_number(promised, -1)
        check_number(accepted, -1, promised)
        check_state(base)
        check_entries(entries)
        _check_right(accepted, base, entries)
        self._epoch = epoch
        self._circle = circle
        self._promised = promised
        self._accepted = accepted
        self._base = base
        self._entries = entries

    @classmethod
    def begun(cls, epoch, circle, base, promised=-1):
        """The facts behind a begin."""
        check_number(epoch, 0)
        check_circle(circle)
        check_state(base)
        check_number(promised, -1)
        return cls(epoch, circle, promised, -1, _opened(base), ())

    @property
    def epoch(self):
        """The epoch."""
        return self._epoch

    @property
    def circle(self):
        """The circle of the epoch."""
        return self._circle

    @property
    def promised(self):
        """The greatest term that was promised, -1 for none."""
        return self._promised

    @property
    def accepted(self):
        """The term in which the row was accepted, -1 for none."""
        return self._accepted

    @property
    def base(self):
        """The state behind the beginning of the row that was folded."""
        return self._base

    @property
    def entries(self):
        """The entries behind the base."""
        return self._entries

    @property
    def length(self):
        """The number of the entries of the row."""
        return self._base.length + len(self._entries)

    @property
    def is_ended(self):
        """Whether a stop is the last entry of the row."""
        if self._base.next is not None:
            return True
        return len(self._entries) > 0 and is_stop(self._entries[-1])

    def entry(self, index):
        """The entry with an index in the row."""
        check_number(index, self._base.length, self.length - 1)
        return self._entries[index - self._base.length]

    def tail(self, start):
        """The entries from an index on."""
        check_number(start, self._base.length, self.length)
        return self._entries[start - self._base.length:]

    def state_at(self, start):
        """The state behind so many entries of the row."""
        check_number(start, self._base.length, self.length)
        return run_entries(self._base, self._entries[:start - self._base.length])

    def __eq__(self, other):
        return isinstance(other, Facts) and _members_of(self) == _members_of(other)

    def __str__(self):
        return f"epoch {self._epoch}, {_text_of_terms(self)}, row {self._base.length} + {len(self._entries)}"


def _members_of(facts):
    """The six members of facts, in the sequence of the constructor."""
    return facts.epoch, facts.circle, facts.promised, facts.accepted, facts.base, facts.entries


def _text_of_terms(facts):
    return f"term {facts.accepted} of {facts.promised}"


def _made(epoch, circle, promised, accepted, base, entries):
    """The facts with members that were checked, but for whether they are right together."""
    _check_right(accepted, base, entries)
    facts = Facts(0, (0,), -1, -1, State.first(), ())
    facts._epoch = epoch
    facts._circle = circle
    facts._promised = promised
    facts._accepted = accepted
    facts._base = base
    facts._entries = entries
    return facts


def _check_right(accepted, base, entries):
    if len(entries) > MAX_ENTRIES:
        raise TooMany(MAX_ENTRIES)
    if base.length + len(entries) > MAX_LENGTH:
        raise InvalidFacts("the row is too long")
    if entries != () and (accepted == -1 or base.next is not None):
        raise InvalidFacts("there are entries without an accepted term, or behind a stop")
    if any([is_stop(entry) for entry in entries[:-1]]):
        raise InvalidFacts("there are entries behind a stop")


def _opened(base):
    """The base with which an epoch begins."""
    return base if base.next is None else base.reopened()


def check_facts(value):
    """Refuses all but facts."""
    if not isinstance(value, Facts):
        raise InvalidFacts("facts are an object of the class Facts")


def promise(facts, term):
    """The facts behind the promise of a greater term, and its record."""
    check_facts(facts)
    check_number(term, facts.promised + 1)
    later = _made(facts.epoch, facts.circle, term, facts.accepted, facts.base, facts.entries)
    return later, (("promise", term),)


def fold(facts, length):
    """The facts whose base is the state behind a beginning of the row, and the record of this."""
    check_facts(facts)
    check_number(length, facts.base.length + 1, facts.length)
    base = facts.state_at(length)
    later = _made(facts.epoch, facts.circle, facts.promised, facts.accepted, base, facts.tail(length))
    return later, (("fold", length),)


def begin(facts, epoch, circle, base, promised=-1):
    """The facts with which an epoch begins, and the record of this; facts is None without an epoch."""
    if facts is not None:
        check_facts(facts)
    check_number(epoch, 0 if facts is None else facts.epoch)
    later = Facts.begun(epoch, circle, base, promised)
    return later, (("begin", epoch, circle, promised),) + later.base.parts()


def lay(facts, term, base, start, entries):
    """The facts behind a lay, and its record; base is None if entries alone are told."""
    check_facts(facts)
    check_number(term, 0)
    if base is not None:
        check_state(base)
    check_number(start, 0)
    if base is not None and start != base.length:
        raise InvalidNumber(start)
    check_entries(entries)
    if base is None and start > facts.length:
        raise Refused(("gap",))
    if start + len(entries) < facts.base.length:
        raise Refused(("short",))
    if len(entries) > MAX_ENTRIES:
        raise TooMany(MAX_ENTRIES)
    later_base, later_entries = _laid_row(facts, base, start, entries)
    promised = max(term, facts.promised)
    later = _made(facts.epoch, facts.circle, promised, term, later_base, later_entries)
    parts = () if base is None else base.parts()
    return later, (("lay", term, start, len(parts)),) + parts + entries


def _laid_row(facts, base, start, entries):
    """The base and the entries behind a lay."""
    own = facts.base
    if base is not None and base.length > own.length:
        return base, entries
    if start < own.length:
        return own, entries[own.length - start:]
    return own, facts.entries[:start - own.length] + entries


def records_of_facts(facts):
    """The tuple of the whole record alone."""
    check_facts(facts)
    parts = facts.base.parts()
    head = ("facts", facts.epoch, facts.circle, facts.promised, facts.accepted, len(parts))
    return ((head,) + parts + facts.entries,)


def facts_of_records(records):
    """The facts that records mean, None for no records."""
    check_records(records)
    facts = None
    for record in records:
        facts = facts_behind(facts, record)
    return facts


def each_behind(records):
    """The list of the facts behind each of some checked records, up to the first one that is no step."""
    found = []
    facts = None
    for record in records:
        try:
            facts = facts_behind(facts, record)
        except InvalidRecord:
            return found
        found.append(facts)
    return found


def facts_until_wrong(records):
    """The facts that checked records mean up to the first one that is no step, None if there are none."""
    found = each_behind(records)
    return found[-1] if found else None


def _check_head(record, many):
    """Refuses a record whose first item has another number of members."""
    if len(record[0]) != many:
        raise InvalidRecord("the head of a record has too few or too many members")


def _cut_behind_head(record, many):
    """The parts of a state, so many, and the entries that stand behind the head of a record."""
    if not is_within(many, 0, len(record) - 1):
        raise InvalidRecord("a record has fewer parts than its head tells")
    return record[1:many + 1], record[many + 1:]


def _behind_whole(facts, record):
    _check_head(record, 6)
    _, epoch, circle, promised, accepted, many = record[0]
    parts, entries = _cut_behind_head(record, many)
    return Facts(epoch, circle, promised, accepted, state_of_parts(parts), entries)


def _behind_begin(facts, record):
    _check_head(record, 4)
    _, epoch, circle, promised = record[0]
    base = state_of_parts(record[1:])
    if base.next is not None:
        raise InvalidRecord("no epoch begins behind a stop")
    return begin(facts, epoch, circle, base, promised)[0]


def _number_alone(record):
    """The number of a record that is a word and a number, and nothing else."""
    _check_head(record, 2)
    if len(record) > 1:
        raise InvalidRecord("nothing stands behind the head of a promise or a fold")
    return record[0][1]


def _behind_promise(facts, record):
    return promise(facts, _number_alone(record))[0]


def _behind_lay(facts, record):
    _check_head(record, 4)
    _, term, start, many = record[0]
    parts, entries = _cut_behind_head(record, many)
    base = None if parts == () else state_of_parts(parts)
    return lay(facts, term, base, start, entries)[0]


def _behind_fold(facts, record):
    return fold(facts, _number_alone(record))[0]


FIRST_WORDS = ("begin", "facts")
LATER_WORDS = ("promise", "lay", "fold", "begin")
STEPS = {
    "facts": _behind_whole, "begin": _behind_begin, "promise": _behind_promise, "lay": _behind_lay,
    "fold": _behind_fold}


def facts_behind(facts, record):
    """The facts behind the step of a checked record."""
    word = record[0][0]
    if word not in (FIRST_WORDS if facts is None else LATER_WORDS):
        raise InvalidRecord("a record has a word that is none, or that is not its turn")
    step = STEPS[word]
    try:
        return step(facts, record)
    except (InvalidNumber, InvalidCircle, InvalidState, InvalidDeed, InvalidFacts, Refused, TooMany):
        raise InvalidRecord("a record is not that of a step that can be done") from None
