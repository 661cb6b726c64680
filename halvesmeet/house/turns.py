"""What the turns of a house have in common: the checks of their arguments, their letters, and room in the row."""

from halvesmeet.base.checks import check_house
from halvesmeet.errors import InvalidOperation
from halvesmeet.house.facts import MAX_ENTRIES, check_facts, fold
from halvesmeet.house.memory import changed, check_memory, check_rule
from halvesmeet.net.letters import check_letter
from halvesmeet.store.states import state_of_parts

# without the rule "whole" a first lay brings no more entries
FEW = 2


def check_place(facts, memory, house):
    """Refuses all but facts, a memory, and the number of a house."""
    check_facts(facts)
    check_memory(memory)
    check_house(house)


def check_of_circle(facts, house):
    """Refuses a house that is not of the circle of its facts."""
    if house not in facts.circle:
        raise InvalidOperation("the house is not of the circle")


def check_taken(facts, memory, house, letter, word, without):
    """Refuses all but a letter with a word that a house can take from one of its circle, in its epoch."""
    check_place(facts, memory, house)
    check_letter(letter)
    check_rule(without)
    check_of_circle(facts, house)
    check_word(facts, letter, word)
    if letter[3] != house or letter[2] not in facts.circle:
        raise InvalidOperation("the letter goes elsewhere, or comes from out of the circle")


def check_word(facts, letter, word):
    """Refuses all but letters of the epoch of the facts with a word."""
    if letter[0] != word or letter[1] != facts.epoch:
        raise InvalidOperation("the letter has another word, or is of another epoch")


def told_row(facts, start):
    """The parts of the base, or None, a start, and entries, as they tell the row from an index on."""
    if start < facts.base.length:
        return facts.base.parts(), facts.base.length, facts.entries
    return None, start, facts.tail(start)


def told_state(base):
    """The state that a letter tells as a base, None without one."""
    return None if base is None else state_of_parts(base)


def ask_to(facts, memory, house, goal, term):
    """The letter that asks a house for a term."""
    return "ask", facts.epoch, house, goal, term, memory.decided


def grant_to(facts, memory, house, goal, term, start):
    """The letter that grants a term, with the row from an index on, as far as the row goes."""
    told = told_row(facts, min(start, facts.length))
    return ("grant", facts.epoch, house, goal, term, facts.accepted, memory.decided) + told


def bar_to(facts, house, goal, term):
    """The letter that tells that a greater term was promised."""
    return "bar", facts.epoch, house, goal, term, facts.promised


def lay_to(facts, memory, house, goal, without):
    """The letter with which who leads lays its row to a house that it has heard of in this term."""
    is_first = goal not in memory.laid
    start = memory.at[goal] if is_first else memory.laid[goal]
    base, start, entries = told_row(facts, min(start, facts.length))
    if is_first and without == "whole":
        entries = entries[:FEW]
    head = ("lay", facts.epoch, house, goal, memory.term, memory.opening)
    return head + (base, start, entries, memory.decided, memory.round)


def lays_to(facts, memory, house, goals, without):
    """The lays to all but the house itself of some houses, ascending."""
    return tuple([lay_to(facts, memory, house, goal, without) for goal in sorted(goals) if goal != house])


def laid_to(facts, house, goal, term, heard):
    """The letter that tells how much was laid in a term, and which round was heard."""
    return "laid", facts.epoch, house, goal, term, facts.length, heard


def raised(memory, term):
    """The memory behind having seen a term."""
    return changed(memory, {"floor": max(memory.floor, term)})


def hearing(memory, leader):
    """The memory of a house that only hears another one, or nobody yet."""
    return changed(memory, {"role": "hears", "leader": leader, "grants": {}, "reads": ()})


def is_over(memory):
    """Whether a house has decided the stop that ends its epoch."""
    return memory.state.next is not None


def lacks_room(facts, base, start, entries):
    """Whether a lay with a base, or None, would let too many entries stand behind the own base."""
    # behind a told base stand at most as many entries as a letter carries, and they have room
    return base is None and start + len(entries) - facts.base.length > MAX_ENTRIES


def all_folded(facts, memory):
    """The records and the facts behind folding all that is decided."""
    reach = min(memory.decided, facts.length)
    if reach <= facts.base.length:
        return (), facts
    later, record = fold(facts, reach)
    return (record,), later
