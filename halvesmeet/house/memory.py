"""Memory: what a house knows beside its facts, and forgets when it falls."""

from halvesmeet.base.values import MAX_HOUSES, MAX_NUMBER, are_indices, is_house, is_within
from halvesmeet.errors import InvalidHouse, InvalidOperation
from halvesmeet.house.facts import check_facts
from halvesmeet.net.letters import is_granted
from halvesmeet.store.deeds import by_keys, is_entry
from halvesmeet.store.states import State, check_state

RULES = ("sync", "life", "promise", "best", "whole", "half", "term", "round", "carry")

ROLES = ("rests", "hears", "asks", "leads", "over")


def _is_role(value):
    return value in ROLES


def _is_house_or_none(value):
    return value is None or is_house(value)


def _is_term_or_none(value):
    """Whether the value is a term, or -1, which stands for none."""
    return is_within(value, -1, MAX_NUMBER)


def _is_count(value):
    return is_within(value, 0, MAX_NUMBER)


def are_grants(value):
    """Whether the value is a dict from houses to what their grants have behind the term."""
    return _is_of_houses(value) and all([is_granted(grant) for grant in value.values()])


def _are_counts(value):
    return _is_of_houses(value) and all([_is_count(count) for count in value.values()])


def _is_of_houses(value):
    return isinstance(value, dict) and all([is_house(house) for house in value])


def _are_reads(value):
    return isinstance(value, tuple) and all([_is_waiting_read(row) for row in value])


def _is_waiting_read(value):
    """Whether the value is a client, a number, a deed, and the round for which it waits."""
    return isinstance(value, tuple) and len(value) == 4 and is_entry(value[:3]) and _is_count(value[3])


def _are_joined(value):
    return are_indices(value, MAX_HOUSES)


FIELD_FORMS = {
    "role": _is_role, "leader": _is_house_or_none, "floor": _is_term_or_none, "term": _is_term_or_none,
    "counter": _is_count, "opening": _is_count, "round": _is_count, "grants": are_grants, "laid": _are_counts,
    "at": _are_counts, "heard": _are_counts, "reads": _are_reads, "joined": _are_joined}


def _first_fields():
    """What the fields have if nothing else is told."""
    return {
        "role": "hears", "leader": None, "floor": -1, "term": -1, "counter": 0, "opening": 0, "round": 0,
        "grants": {}, "laid": {}, "at": {}, "heard": {}, "reads": (), "joined": ()}


def _check_fields(fields):
    if fields is None:
        return
    if not isinstance(fields, dict) or not all([_is_field(name, told) for name, told in fields.items()]):
        raise InvalidHouse("the fields of a memory have their names, and what is right for them")


def _is_field(name, told):
    if not isinstance(name, str) or name not in FIELD_FORMS:
        return False
    form = FIELD_FORMS[name]
    return form(told)


class Memory:
    """The state at what a house has decided, and all else that it knows; a memory never changes."""

    def __init__(self, state, fields=None):
        check_state(state)
        _check_fields(fields)
        self._state = state
        self._fields = _exchanged(_first_fields(), {} if fields is None else fields)

    @classmethod
    def risen(cls, facts):
        """The memory of a house that has just risen; facts is None without an epoch."""
        if facts is None:
            return cls(State.first(), {"role": "rests"})
        check_facts(facts)
        role = "hears" if facts.base.next is None else "over"
        return cls(facts.base, {"role": role, "floor": facts.promised})

    @property
    def role(self):
        """What the house does in its epoch."""
        return self._fields["role"]

    @property
    def leader(self):
        """The house that it hears, or None."""
        return self._fields["leader"]

    @property
    def state(self):
        """The state at what it has decided."""
        return self._state

    @property
    def decided(self):
        """The number of the entries that it has decided."""
        return self._state.length

    @property
    def floor(self):
        """The greatest term that it has seen."""
        return self._fields["floor"]

    @property
    def term(self):
        """The term that it asks or leads."""
        return self._fields["term"]

    @property
    def counter(self):
        """The number of its beats."""
        return self._fields["counter"]

    @property
    def opening(self):
        """The length with which it began to lead."""
        return self._fields["opening"]

    @property
    def round(self):
        """The last round for which reads wait."""
        return self._fields["round"]

    @property
    def grants(self):
        """For each house that granted the term what it told."""
        return dict(self._fields["grants"])

    @property
    def laid(self):
        """For each house the length that it has laid in this term."""
        return dict(self._fields["laid"])

    @property
    def at(self):
        """For each house the length that it had decided."""
        return dict(self._fields["at"])

    @property
    def heard(self):
        """For each house the last round that it has heard."""
        return dict(self._fields["heard"])

    @property
    def reads(self):
        """The reads that wait: client, number, deed and round of each."""
        return self._fields["reads"]

    @property
    def joined(self):
        """The houses that are known to have begun the epoch."""
        return self._fields["joined"]

    def but(self, fields):
        """The memory with some fields, or the state, exchanged."""
        if isinstance(fields, dict) and "state" in fields:
            check_state(fields["state"])
            _check_fields({name: told for name, told in fields.items() if name != "state"})
        else:
            _check_fields(fields)
        return changed(self, {} if fields is None else fields)

    def __eq__(self, other):
        return isinstance(other, Memory) and self._state == other._state and self._fields == other._fields


def changed(memory, fields):
    """As Memory.but, for fields that are known to be right."""
    later = Memory(fields.get("state", memory.state))
    later._fields = _exchanged(memory._fields, {name: told for name, told in fields.items() if name != "state"})
    return later


def _exchanged(fields, others):
    """The fields with some exchanged, those that are dicts being copied with ascending keys."""
    later = dict(fields)
    for name, told in others.items():
        later[name] = by_keys(told) if isinstance(told, dict) else told
    return later


def check_memory(value):
    """Refuses all but memories."""
    if not isinstance(value, Memory):
        raise InvalidHouse("a memory is an object of the class Memory")


def check_rule(without):
    """Refuses all but None and a rule as what is left out."""
    if without is not None and without not in RULES:
        raise InvalidOperation("what is left out is one of the rules, or None")
