"""Asking for a term: what a house grants, and how it begins to lead."""

from halvesmeet.base.checks import check_number
from halvesmeet.errors import InvalidOperation
from halvesmeet.house.facts import check_facts, lay, promise
from halvesmeet.house.memory import are_grants, changed
from halvesmeet.house.terms import is_enough, own_term_above
from halvesmeet.house.turns import (
    all_folded, ask_to, bar_to, check_of_circle, check_place, check_taken, grant_to, hearing, lacks_room, laid_to,
    lay_to, lays_to, raised, told_row, told_state)

PATIENCE = 3


def row_from(facts, start):
    """The parts of the base, or None, a start, and entries, as they tell the row from an index on."""
    check_facts(facts)
    check_number(start, 0, facts.length)
    return told_row(facts, start)


def asked(facts, memory, house):
    """The turn of a house that asks its circle for the next term of its own."""
    check_place(facts, memory, house)
    check_of_circle(facts, house)
    term = own_term_above(facts.circle, house, max(memory.floor, facts.promised))
    later = changed(memory, {
        "role": "asks", "term": term, "grants": {}, "reads": (), "counter": 0, "leader": None, "floor": term})
    return (), later, facts, tuple([ask_to(facts, later, house, goal, term) for goal in facts.circle])


def is_out_of_patience(facts, memory, house):
    """Whether a house has waited long enough for another one that leads."""
    check_place(facts, memory, house)
    check_of_circle(facts, house)
    return memory.counter >= PATIENCE + facts.circle.index(house)


def taken_ask(facts, memory, house, letter, *, without=None):
    """The turn of a house that is asked for a term."""
    check_taken(facts, memory, house, letter, "ask", without)
    _, _, goal, _, term, start = letter
    later = raised(memory, term)
    if term < facts.promised and without != "promise":
        return (), later, facts, (bar_to(facts, house, goal, term),)
    if goal != house:
        later = changed(later, {"counter": 0})
    records = ()
    if term > facts.promised:
        facts, record = promise(facts, term)
        records = (record,)
        if goal != house or memory.role != "asks" or memory.term != term:
            later = hearing(later, None)
    return records, later, facts, (grant_to(facts, later, house, goal, term, start),)


def taken_bar(facts, memory, house, letter):
    """The turn of a house that is told that a term was not granted to it."""
    check_taken(facts, memory, house, letter, "bar", None)
    _, _, _, _, term, promised = letter
    later = raised(memory, max(term, promised))
    if memory.role == "asks" and memory.term == term:
        return asked(facts, later, house)
    if memory.role == "leads" and memory.term == term:
        later = changed(hearing(later, None), {"counter": 0})
    return (), later, facts, ()


def taken_grant(facts, memory, house, letter, *, without=None):
    """The turn of a house to which a term was granted."""
    check_taken(facts, memory, house, letter, "grant", without)
    later = raised(memory, letter[4])
    if memory.role == "asks" and memory.term == letter[4]:
        return _behind_grant(facts, later, house, letter, without)
    if memory.role == "leads" and memory.term == letter[4]:
        return _behind_late_grant(facts, later, house, letter, without)
    return (), later, facts, ()


def _behind_grant(facts, memory, house, letter, without):
    """The turn behind a grant of the term that the house asks."""
    goal, base, start = letter[2], letter[7], letter[8]
    grants = memory.grants
    if goal in grants or (base is None and start > memory.decided):
        return (), memory, facts, ()
    grants[goal] = letter[5:]
    later = changed(memory, {"grants": grants})
    many = len([other for other in facts.circle if other in grants])
    if house not in grants or not is_enough(facts.circle, many, without):
        return (), later, facts, ()
    return _leading(facts, later, house, without)


def _leading(facts, memory, house, without):
    """The turn of a house that begins to lead the term that it asks."""
    base, start, entries = _first_row(facts, memory, without)
    records = ()
    if lacks_room(facts, base, start, entries):
        records, facts = all_folded(facts, memory)
    facts, record = lay(facts, memory.term, base, start, entries)
    grants = memory.grants
    later = changed(memory, {
        "state": base if base is not None and base.length > memory.decided else memory.state,
        "role": "leads", "leader": house, "counter": 0, "opening": facts.length, "laid": {}, "heard": {}, "round": 0,
        "reads": (), "at": {other: grant[1] for other, grant in grants.items()}})
    letters = (laid_to(facts, house, house, memory.term, 0),) + lays_to(facts, later, house, grants, without)
    return records + (record,), later, facts, letters


def _first_row(facts, memory, without):
    """The base or None, the start and the entries with which a house begins to lead."""
    if without == "best":
        return None, facts.length, ()
    _, _, base, start, entries = memory.grants[_best_of(memory.grants)]
    # what is decided is never given up, even if no grant has all of it
    if start + len(entries) < memory.decided:
        return None, memory.decided, ()
    return told_state(base), start, entries


def _behind_late_grant(facts, memory, house, letter, without):
    """The turn behind a grant of the term that the house leads already."""
    goal, decided = letter[2], letter[6]
    # nothing is laid to the house itself, so its own grant has nothing to tell any more
    if goal == house or goal in memory.laid:
        return (), memory, facts, ()
    places = memory.at
    places[goal] = decided
    later = changed(memory, {"at": places})
    return (), later, facts, (lay_to(facts, later, house, goal, without),)


def best_grant(grants):
    """The house with the best grant: the greatest accepted term, the longest row, the least house."""
    if not are_grants(grants) or grants == {}:
        raise InvalidOperation("grants are a dict from houses to what they told, and not empty")
    return _best_of(grants)


def _best_of(grants):
    """As best_grant, for what was checked."""
    best = None
    for house in sorted(grants):
        if best is None or _rank_of(grants[house]) > _rank_of(grants[best]):
            best = house
    return best


def _rank_of(grant):
    accepted, _, _, start, entries = grant
    return accepted, start + len(entries)
