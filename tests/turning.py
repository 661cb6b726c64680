"""What the tests of turns share: facts and memories to begin with, and the checks that hold for each turn."""

from halvesmeet.errors import InvalidFacts, InvalidHouse, InvalidLetter, InvalidNumber, InvalidOperation
from halvesmeet.house.facts import Facts, facts_of_records, records_of_facts
from halvesmeet.house.memory import RULES, Memory
from halvesmeet.net.letters import is_letter
from halvesmeet.store.states import State
from support import Parameter, kind_of_error, number_from, shown
from test_facts import entries_from

FIRST = State.first()
# fields that no turn names together, to see which ones stay
ODD_FIELDS = {
    "role": "hears", "leader": 2, "floor": 6, "term": 5, "counter": 2, "opening": 1, "round": 3,
    "grants": {1: (-1, 0, None, 0, ())}, "laid": {1: 2}, "at": {2: 1}, "heard": {1: 2},
    "reads": ((0, 1, ("get", "a"), 3),), "joined": (0,)}
FACTS = Parameter(Facts.begun(0, (0, 1, 2), FIRST), lambda value: isinstance(value, Facts), InvalidFacts)
MEMORY = Parameter(Memory(FIRST), lambda value: isinstance(value, Memory), InvalidHouse)
HOUSE = Parameter(1, number_from(0, 8), InvalidNumber)
WITHOUT = Parameter(None, lambda value: value is None or (isinstance(value, str) and value in RULES), InvalidOperation, "without")


def facts_with(many, *, base=0, promised=5, accepted=4, epoch=0, circle=(0, 1, 2), client=0):
    """Facts with so many entries behind a base, which has so many, too."""
    state = FIRST.run(entries_from(base, 0, client))
    return Facts(epoch, circle, promised, accepted, state, entries_from(many, base, client))


def memory_at(facts, decided, **fields):
    """The memory of a house that has decided so many entries of its row."""
    return Memory(facts.state_at(decided), {**ODD_FIELDS, **fields})


def letter_parameter(letter):
    return Parameter(letter, is_letter, InvalidLetter)


def check_turn(case, call, facts, memory, records, changes, letters, **keywords):
    """Checks a turn: its records, which fields of the memory it changes, and its letters; returns it.

    The call takes facts and a memory; the facts behind it must be those that the records mean.
    """
    before = shown((facts, memory))
    turn = call(facts, memory, **keywords)
    case.assertEqual(shown((facts, memory)), before)
    case.assertEqual((type(turn), len(turn)), (tuple, 4))
    case.assertEqual(turn[0], records)
    case.assertTrue(turn[1] == memory.but(changes), (shown(turn[1]), changes))
    if facts is None:
        case.assertTrue(turn[2] == facts_of_records(records), str(turn[2]))
    else:
        case.assertTrue(turn[2] == facts_of_records(records_of_facts(facts) + records), str(turn[2]))
    case.assertEqual(turn[3], letters)
    case.assertEqual([letter for letter in turn[3] if not is_letter(letter)], [])
    return turn


def check_words(case, function, facts, memory, house, letter):
    """Checks that a letter is refused with another word or epoch, from and to a wrong house, and out of the circle."""
    case.assertIsNone(kind_of_error(function, [facts, memory, house, letter]))
    wrong = [("begun",) + letter[1:4], ("deed", 0, house, 1, ("get", "a")), ("answer", house, 0, 1, ("full",), 0),
             ("try", house, 0, 1, None, 0, (0, 1)), ("ask",) + letter[1:4] + (4, 0), ("bar",) + letter[1:4] + (4, 9),
             ("laid",) + letter[1:4] + (4, 0, 0), ("grant",) + letter[1:4] + (4, 0, 0, None, 0, ()),
             ("lay",) + letter[1:4] + (4, 0, None, 0, (), 0, 0), ("carry",) + letter[1:4] + ((0, 1), FIRST.parts(), -1)]
    wrong = [other for other in wrong if other[0] != letter[0]]
    wrong += [letter[:1] + (letter[1] + more,) + letter[2:] for more in (-1, 1) if letter[1] + more >= 0]
    wrong += [letter[:2] + (other,) + letter[3:] for other in range(9) if other not in facts.circle]
    wrong += [letter[:3] + (other,) + letter[4:] for other in range(9) if other != house]
    for other in wrong:
        case.assertTrue(is_letter(other))
        case.assertEqual(kind_of_error(function, [facts, memory, house, other]), (InvalidOperation, None), other)
    for other in range(9):
        if other not in facts.circle:
            told = letter[:3] + (other,) + letter[4:]
            case.assertEqual(kind_of_error(function, [facts, memory, other, told]), (InvalidOperation, None))
            case.assertEqual(kind_of_error(function, [facts, memory, other, 5]), (InvalidLetter, None))


def check_rules(case, call, changing=()):
    """Checks which rules change a result when they are left out; returns what it is without each of them."""
    plain = call(None)
    told = {rule: call(rule) for rule in RULES}
    for rule in RULES:
        case.assertIs(told[rule] == plain, rule not in changing, rule)
    return plain, told
