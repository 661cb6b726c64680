"""Epochs: how one ends with a stop, and how the houses of the next one come to begin it."""

from halvesmeet.base.checks import check_house
from halvesmeet.errors import InvalidOperation
from halvesmeet.house.facts import begin, check_facts
from halvesmeet.house.memory import Memory, changed, check_memory, check_rule
from halvesmeet.house.turns import check_of_circle, check_place, is_over, told_state
from halvesmeet.net.letters import HOUSE_WORDS, check_letter


def ended(facts, memory, house):
    """The turn of a house that has decided the stop of its epoch."""
    check_place(facts, memory, house)
    state = memory.state
    if state.next is None:
        raise InvalidOperation("no stop is decided")
    if house not in state.next:
        return (), Memory(state, {"role": "over", "floor": memory.floor}), facts, ()
    later, record = begin(facts, facts.epoch + 1, state.next, state)
    return (record,), Memory.risen(later), later, ()


def carries(facts, memory, house):
    """The letters by which a house tells of the epoch behind its own one, or of its own one."""
    check_place(facts, memory, house)
    check_of_circle(facts, house)
    if is_over(memory):
        goals = [goal for goal in memory.state.next if goal not in memory.joined]
        return tuple([_carry_of_next(facts, memory, house, goal) for goal in goals])
    if facts.epoch == 0:
        return ()
    goals = [goal for goal in facts.circle if goal != house and goal not in memory.joined]
    return tuple([_carry_of_own(facts, house, goal) for goal in goals])


def _carry_of_next(facts, memory, house, goal):
    """The carry of a house whose epoch is over."""
    state = memory.state
    return "carry", facts.epoch + 1, house, goal, state.next, state.reopened().parts(), -1


def _carry_of_own(facts, house, goal):
    return "carry", facts.epoch, house, goal, facts.circle, facts.base.parts(), facts.promised


def taken_carry(facts, memory, house, letter, *, without=None):
    """The turn of a house that is told of an epoch; facts is None if it has none yet."""
    if facts is not None:
        check_facts(facts)
    check_memory(memory)
    check_house(house)
    check_letter(letter)
    check_rule(without)
    if letter[0] != "carry" or letter[3] != house:
        raise InvalidOperation("the letter is no carry, or goes elsewhere")
    _, epoch, goal, _, circle, base, promised = letter
    own = -1 if facts is None else facts.epoch
    if house in circle and (epoch > own or (epoch == own and without == "carry")):
        later, record = begin(facts, epoch, circle, told_state(base), promised)
        return (record,), Memory.risen(later), later, (_begun_to(epoch, house, goal),)
    if epoch == own:
        return (), memory, facts, (_begun_to(epoch, house, goal),)
    return (), memory, facts, ()


def _begun_to(epoch, house, goal):
    return "begun", epoch, house, goal


def of_other_epoch(facts, memory, house, letter):
    """The memory and the letters behind a letter of another epoch, or to a house whose epoch is over."""
    check_place(facts, memory, house)
    check_letter(letter)
    check_of_circle(facts, house)
    if letter[0] not in HOUSE_WORDS or letter[0] == "carry" or letter[3] != house:
        raise InvalidOperation("the letter comes from no house, is a carry, or goes elsewhere")
    epoch, goal = letter[1], letter[2]
    if epoch == facts.epoch and not is_over(memory):
        raise InvalidOperation("the letter is of the own epoch, and this is not over")
    if epoch < facts.epoch:
        return memory, ((_carry_of_own(facts, house, goal),) if goal in facts.circle else ())
    if not is_over(memory) or goal not in memory.state.next:
        return memory, ()
    if epoch == facts.epoch:
        return memory, (_carry_of_next(facts, memory, house, goal),)
    return (_joined_by(memory, goal) if epoch == facts.epoch + 1 else memory), ()


def has_begun(facts, memory, other):
    """The memory behind a letter of the own epoch from another house."""
    check_facts(facts)
    check_memory(memory)
    check_house(other)
    return _joined_by(memory, other) if other in facts.circle else memory


def _joined_by(memory, house):
    """The memory that has a house among those that have begun the epoch."""
    if house in memory.joined:
        return memory
    return changed(memory, {"joined": tuple(sorted(memory.joined + (house,)))})
