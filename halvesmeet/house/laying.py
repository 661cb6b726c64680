"""Laying a row: how who leads tells it, who takes it, and what is decided by this."""

from halvesmeet.base.checks import check_number
from halvesmeet.base.values import is_house
from halvesmeet.errors import InvalidOperation
from halvesmeet.house.facts import check_facts, lay, promise
from halvesmeet.house.memory import changed, check_memory, check_rule
from halvesmeet.house.terms import length_chosen
from halvesmeet.house.turns import (
    all_folded, bar_to, check_of_circle, check_place, check_taken, check_word, grant_to, hearing, lacks_room, laid_to,
    lay_to, raised, told_state)
from halvesmeet.net.letters import check_letter

MOST_FOLDED = 12


def lay_letter(facts, memory, house, goal, *, without=None):
    """The letter with which who leads lays its row to another house."""
    check_place(facts, memory, house)
    check_rule(without)
    check_of_circle(facts, house)
    if memory.role != "leads" or not is_house(goal) or goal == house:
        raise InvalidOperation("the house does not lead, or lays to no other house")
    if goal not in memory.laid and goal not in memory.at:
        raise InvalidOperation("nothing is known of the other house in this term")
    return lay_to(facts, memory, house, goal, without)


def is_fitting(facts, memory, letter, *, without=None):
    """Whether a lay can be taken."""
    check_facts(facts)
    check_memory(memory)
    check_letter(letter)
    check_rule(without)
    check_word(facts, letter, "lay")
    return _does_fit(facts, memory, letter, without)


def _does_fit(facts, memory, letter, without):
    """As is_fitting, for what was checked."""
    _, _, _, _, term, first, base, start, entries, _, _ = letter
    if term < facts.promised and without != "promise":
        return False
    if facts.accepted == term and facts.length >= start:
        return True
    end = start + len(entries)
    if end < memory.decided or (end < first and without != "whole"):
        return False
    return base is not None or start <= memory.decided


def taken_lay(facts, memory, house, letter, *, without=None):
    """The turn of a house to which a row is laid."""
    check_taken(facts, memory, house, letter, "lay", without)
    goal, term = letter[2], letter[4]
    if goal == house:
        raise InvalidOperation("a house lays nothing to itself")
    later = raised(memory, term)
    if term < facts.promised and without != "promise":
        return (), later, facts, (bar_to(facts, house, goal, term),)
    later = changed(hearing(later, goal), {"counter": 0})
    if _does_fit(facts, later, letter, without):
        records, later, facts = _with_row(facts, later, letter)
        return records, later, facts, (laid_to(facts, house, goal, term, letter[10]),)
    records = ()
    if term > facts.promised:
        facts, record = promise(facts, term)
        records = (record,)
    return records, later, facts, (grant_to(facts, later, house, goal, term, later.decided),)


def _with_row(facts, memory, letter):
    """The records, the memory and the facts of a house that takes a lay that fits."""
    _, _, _, _, term, _, parts, start, entries, decided, _ = letter
    if facts.accepted == term and facts.length >= start + len(entries):
        return (), _decided_to(facts, memory, decided), facts
    base = told_state(parts)
    records = ()
    if lacks_room(facts, base, start, entries):
        if facts.accepted == term:
            memory = _decided_to(facts, memory, decided)
        records, facts = all_folded(facts, memory)
    facts, record = lay(facts, term, base, start, entries)
    return records + (record,), _decided_to(facts, memory, decided), facts


def taken_laid(facts, memory, house, letter, *, without=None):
    """The turn of a house that is told how much another one, or itself, has laid."""
    check_taken(facts, memory, house, letter, "laid", without)
    _, _, goal, _, term, length, count = letter
    later = raised(memory, term)
    is_of_term = term == memory.term or (without == "term" and term < memory.term)
    if memory.role != "leads" or not is_of_term:
        return (), later, facts, ()
    laid = _with_greatest(memory.laid, goal, length)
    later = changed(later, {"laid": laid, "heard": _with_greatest(memory.heard, goal, count)})
    later = _decided_to(facts, later, length_chosen(facts.circle, laid, without))
    if goal != house and laid[goal] < facts.length:
        return (), later, facts, (lay_to(facts, later, house, goal, without),)
    return (), later, facts, ()


def _with_greatest(counts, house, count):
    """The counts, that of a house being the told one if this is greater."""
    later = dict(counts)
    later[house] = max(count, counts.get(house, 0))
    return later


def decided_to(facts, memory, length):
    """The memory of a house that has decided so many entries of its row, as far as it goes."""
    check_facts(facts)
    check_memory(memory)
    check_number(length, 0)
    return _decided_to(facts, memory, length)


def _decided_to(facts, memory, length):
    """As decided_to, for what was checked."""
    goal = max(min(length, facts.length), memory.decided, facts.base.length)
    if goal == memory.decided:
        return memory
    return changed(memory, {"state": facts.state_at(goal)})


def folded(facts, memory, many):
    """The records and the facts behind folding, if so many entries behind the base are decided."""
    check_facts(facts)
    check_memory(memory)
    check_number(many, 1, MOST_FOLDED)
    if min(memory.decided, facts.length) - facts.base.length < many:
        return (), facts
    return all_folded(facts, memory)
