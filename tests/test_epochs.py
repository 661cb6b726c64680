import itertools
import unittest

from halvesmeet.errors import InvalidFacts, InvalidHouse, InvalidLetter, InvalidNumber, InvalidOperation
from halvesmeet.house.epochs import carries, ended, has_begun, of_other_epoch, taken_carry
from halvesmeet.house.facts import Facts
from halvesmeet.house.memory import Memory
from halvesmeet.net.letters import is_letter
from halvesmeet.store.states import State
from support import THREE, Parameter, check_errors, kind_of_error, number_from
from test_facts import entries_from
from turning import FACTS, FIRST, HOUSE, MEMORY, ODD_FIELDS, WITHOUT, check_rules, check_turn, facts_with, letter_parameter, memory_at

NEXT = (1, 2, 4)
STOP = (0, 9, ("circle", NEXT))


def stopped(epoch=3, base=2, accepted=4):
    """Facts of THREE with a stop at the end of the row."""
    state = FIRST.run(entries_from(base))
    return Facts(epoch, THREE, 5, accepted, state, entries_from(2, base) + (STOP,))


def over(facts, **fields):
    """The memory of a house that has decided the stop."""
    return memory_at(facts, facts.length, **{"role": "over", "joined": (), **fields})


def carry(epoch, goal, house, circle, base, promised):
    return "carry", epoch, goal, house, circle, base.parts(), promised


class EndedTest(unittest.TestCase):
    def test_a_house_of_the_next_circle(self):
        for epoch in (0, 3):
            facts = stopped(epoch)
            for house in NEXT:
                for role in ("hears", "asks", "leads"):
                    memory = over(facts, role=role)
                    opened = facts.state_at(5).reopened()
                    record = (("begin", epoch + 1, NEXT, -1),) + opened.parts()
                    told = ended(facts, memory, house)
                    self.assertEqual((told[0], told[3]), ((record,), ()))
                    self.assertEqual(told[2], Facts(epoch + 1, NEXT, -1, -1, opened, ()))
                    self.assertEqual(told[1], Memory(opened))

    def test_another_house(self):
        facts = stopped()
        for house in (0, 3, 8):
            memory = over(facts, role="leads", joined=(2,), floor=17)
            check_turn(self, lambda *args: ended(*args, house), facts, memory, (), {
                "role": "over", "leader": None, "floor": 17, "term": -1, "counter": 0, "opening": 0, "round": 0, "grants": {}, "laid": {},
                "at": {}, "heard": {}, "reads": (), "joined": ()}, ())
            self.assertEqual(ended(facts, memory, house)[1], Memory(facts.state_at(5), {"role": "over", "floor": 17}))

    def test_no_stop_is_decided(self):
        facts = stopped()
        for decided in (2, 3, 4):
            self.assertEqual(kind_of_error(ended, [facts, memory_at(facts, decided), 1]), (InvalidOperation, None))
        check_errors(self, ended, [FACTS, Parameter(over(facts), MEMORY.is_right, InvalidHouse), HOUSE])
        self.assertEqual(kind_of_error(ended, [facts, memory_at(facts, 2), 9]), (InvalidNumber, 9))


class CarriesTest(unittest.TestCase):
    def check(self, facts, memory, house, wished):
        told = carries(facts, memory, house)
        self.assertEqual(told, wished)
        self.assertTrue(all(is_letter(letter) for letter in told))

    def test_an_epoch_that_is_over(self):
        for epoch in (0, 3):
            facts = stopped(epoch)
            opened = facts.state_at(5).reopened()
            for joined in ((), (1,), (2, 4), (0, 4, 8), NEXT, tuple(range(9))):
                for role in ("over", "hears"):
                    wished = tuple(carry(epoch + 1, 0, goal, NEXT, opened, -1) for goal in NEXT if goal not in joined)
                    self.check(facts, over(facts, joined=joined, role=role), 0, wished)

    def test_the_own_epoch(self):
        for epoch in (0, 1, 7):
            facts = facts_with(3, base=2, epoch=epoch)
            for house in THREE:
                for joined in ((), (0,), (1, 2), (0, 5), THREE):
                    wished = tuple(carry(epoch, house, goal, THREE, facts.base, 5) for goal in THREE if goal not in joined + (house,))
                    self.check(facts, memory_at(facts, 3, joined=joined), house, wished if epoch > 0 else ())
        none = Facts.begun(2, THREE, FIRST)
        self.check(none, Memory(FIRST), 1, (carry(2, 1, 0, THREE, FIRST, -1), carry(2, 1, 2, THREE, FIRST, -1)))

    def test_errors(self):
        check_errors(self, carries, [FACTS, MEMORY, HOUSE])
        self.assertEqual(kind_of_error(carries, [FACTS.good, MEMORY.good, 3]), (InvalidOperation, None))


class CarryTest(unittest.TestCase):
    def check(self, facts, memory, house, letter, records, letters, **keywords):
        turn = taken_carry(facts, memory, house, letter, **keywords)
        self.assertEqual((turn[0], turn[3]), (records, letters))
        if records:
            _, epoch, _, _, circle, parts, promised = letter
            later = Facts.begun(epoch, circle, State(*self.members(parts)), promised)
            self.assertTrue(turn[2] == later and turn[1] == Memory.risen(later))
        else:
            self.assertTrue(turn[1] == memory and (turn[2] is facts or turn[2] == facts))
        self.assertTrue(all(is_letter(told) for told in turn[3]))

    def members(self, parts):
        pairs = {part[1]: part[2] for part in parts if part[0] == "pair"}
        sessions = {part[1]: part[2:] for part in parts if part[0] == "session"}
        return parts[0][1], pairs, sessions, parts[0][2]

    def test_each_epoch(self):
        base = FIRST.run(entries_from(7))
        for own in (None, 0, 2, 3):
            facts = None if own is None else facts_with(3, base=2, epoch=own)
            memory = Memory(FIRST, {"role": "rests"}) if own is None else memory_at(facts, 4)
            for epoch, circle, promised, goal in itertools.product((0, 1, 2, 3, 4), ((1, 4), (2, 4), (1,)), (-1, 6), (0, 2, 8, 1)):
                letter = carry(epoch, goal, 1, circle, base, promised)
                begins = 1 in circle and epoch > (-1 if own is None else own)
                record = (("begin", epoch, circle, promised),) + base.parts()
                answers = begins or epoch == own
                for rule in (None, "promise", "sync", "best"):
                    self.check(facts, memory, 1, letter, (record,) if begins else (), (("begun", epoch, 1, goal),) if answers else (), without=rule)

    def test_taken_twice(self):
        letter = carry(2, 8, 1, NEXT, FIRST.run(entries_from(7)), 6)
        _, memory, facts, letters = taken_carry(None, Memory(FIRST, {"role": "rests"}), 1, letter)
        self.assertEqual((memory.floor, memory.role, facts.promised, letters), (6, "hears", 6, (("begun", 2, 1, 8),)))
        self.check(facts, memory.but(ODD_FIELDS), 1, letter, (), letters)

    def test_a_house_whose_epoch_is_over(self):
        facts = stopped()
        opened = facts.state_at(5).reopened()
        # it is told of the next epoch, or of a later one that it is of
        for circle, begins in (((0, 4), True), (NEXT, False)):
            for epoch in (4, 6):
                letter = carry(epoch, 2, 0, circle, opened, -1)
                record = (("begin", epoch, circle, -1),) + opened.parts()
                self.check(facts, over(facts), 0, letter, (record,) if begins else (), (("begun", epoch, 0, 2),) if begins else ())

    def test_without_carry(self):
        facts = facts_with(3, base=2, epoch=3)
        memory = memory_at(facts, 4)
        base = FIRST.run(entries_from(1))
        for epoch, circle, changing in ((3, (1, 4), True), (3, THREE, True), (3, (0, 4), False), (2, (1, 4), False), (4, (1, 4), False), (4, (0, 4), False)):
            letter = carry(epoch, 2, 1, circle, base, 8)
            check_rules(self, lambda rule: taken_carry(facts, memory, 1, letter, without=rule), ("carry",) if changing else ())
            if changing:
                self.check(facts, memory, 1, letter, ((("begin", 3, circle, 8),) + base.parts(),), (("begun", 3, 1, 2),), without="carry")
        check_rules(self, lambda rule: taken_carry(None, Memory(FIRST, {"role": "rests"}), 1, carry(0, 2, 1, THREE, base, 8), without=rule))

    def test_errors(self):
        letter = carry(2, 2, 1, THREE, FIRST, -1)
        for good in (None, FACTS.good):
            facts = Parameter(good, lambda value: value is None or isinstance(value, Facts), InvalidFacts)
            check_errors(self, taken_carry, [facts, MEMORY, HOUSE, letter_parameter(letter), WITHOUT])
        for other in (("begun", 2, 2, 1), ("ask", 2, 2, 1, 4, 0), ("deed", 0, 1, 1, ("get", "a")), carry(2, 2, 0, THREE, FIRST, -1)):
            self.assertEqual(kind_of_error(taken_carry, [FACTS.good, MEMORY.good, 1, other]), (InvalidOperation, None))
        # the house need not be of the own circle, nor who sends it
        self.assertIsNone(kind_of_error(taken_carry, [FACTS.good, MEMORY.good, 8, carry(2, 7, 8, (8,), FIRST, -1)]))


def letters_of(epoch, goal, house):
    """A letter of each word between houses, but for a carry."""
    head = (epoch, goal, house)
    return (("ask",) + head + (4, 0), ("grant",) + head + (4, -1, 0, None, 0, ()), ("bar",) + head + (4, 5), ("lay",) + head + (4, 0, None, 0, (), 0, 0),
            ("laid",) + head + (4, 0, 0), ("begun",) + head)


class OtherEpochTest(unittest.TestCase):
    def check(self, facts, memory, house, letter, changes, letters):
        later, told = of_other_epoch(facts, memory, house, letter)
        self.assertEqual(told, letters)
        self.assertTrue(later == memory.but(changes), letter)
        self.assertTrue(all(is_letter(told) for told in letters))

    def test_a_house_in_its_epoch(self):
        facts = facts_with(3, base=2, epoch=3)
        memory = memory_at(facts, 4)
        for epoch, goal in itertools.product((0, 2, 4, 5), range(9)):
            for letter in letters_of(epoch, goal, 1):
                answers = epoch < 3 and goal in THREE
                self.check(facts, memory, 1, letter, {}, (carry(3, 1, goal, THREE, facts.base, 5),) if answers else ())

    def test_a_house_whose_epoch_is_over(self):
        facts = stopped()
        opened = facts.state_at(5).reopened()
        for role, joined in itertools.product(("over", "hears"), ((), (2,), (0, 4))):
            memory = over(facts, joined=joined, role=role)
            for epoch, goal in itertools.product((0, 2, 3, 4, 5), range(9)):
                for letter in letters_of(epoch, goal, 0):
                    changes, letters = {}, ()
                    if epoch < 3 and goal in THREE:
                        letters = (carry(3, 0, goal, THREE, facts.base, 5),)
                    elif epoch == 3 and goal in NEXT:
                        letters = (carry(4, 0, goal, NEXT, opened, -1),)
                    elif epoch == 4 and goal in NEXT:
                        changes = {"joined": tuple(sorted({*joined, goal}))}
                    self.check(facts, memory, 0, letter, changes, letters)

    def test_errors(self):
        facts = facts_with(3, base=2, epoch=3)
        memory = memory_at(facts, 4)
        good = ("begun", 2, 2, 1)
        check_errors(self, of_other_epoch, [Parameter(facts, FACTS.is_right, InvalidFacts), MEMORY, HOUSE, letter_parameter(good)])
        wrong = letters_of(3, 2, 1) + letters_of(2, 2, 0) + letters_of(4, 1, 2) + (
            carry(2, 2, 1, THREE, FIRST, -1), carry(4, 2, 1, THREE, FIRST, -1), ("deed", 0, 1, 1, ("get", "a")),
            ("answer", 1, 1, 1, ("full",), 0), ("try", 1, 1, 1, None, 0, THREE))
        for letter in wrong:
            self.assertEqual(kind_of_error(of_other_epoch, [facts, memory, 1, letter]), (InvalidOperation, None), letter)
        self.assertEqual(kind_of_error(of_other_epoch, [facts, memory, 8, ("begun", 2, 2, 8)]), (InvalidOperation, None))
        self.assertEqual(kind_of_error(of_other_epoch, [facts, memory, 8, None]), (InvalidLetter, None))
        # to a house whose epoch is over letters of this epoch can come
        ending = stopped()
        self.assertIsNone(kind_of_error(of_other_epoch, [ending, over(ending), 1, ("begun", 3, 2, 1)]))
        self.assertEqual(kind_of_error(of_other_epoch, [ending, over(ending), 1, carry(4, 2, 1, NEXT, FIRST, -1)]), (InvalidOperation, None))


class BegunTest(unittest.TestCase):
    def test_joined_grows(self):
        facts = facts_with(3)
        for joined in ((), (0,), (1, 2), (0, 5), THREE):
            memory = memory_at(facts, 2, joined=joined)
            for other in range(9):
                wished = tuple(sorted({*joined, other})) if other in THREE else joined
                self.assertEqual(has_begun(facts, memory, other), memory.but({"joined": wished}))
                self.assertEqual(memory.joined, joined)

    def test_errors(self):
        check_errors(self, has_begun, [FACTS, MEMORY, Parameter(1, number_from(0, 8), InvalidNumber)])


class NotTrueTest(unittest.TestCase):
    def test_equal_bases(self):
        # the house 4 is told of the epoch by one that has folded more of it already
        early = taken_carry(None, Memory.risen(None), 1, carry(4, 0, 1, NEXT, FIRST.run(entries_from(5)), -1))[2]
        late = taken_carry(None, Memory.risen(None), 4, carry(4, 1, 4, NEXT, FIRST.run(entries_from(8)), 6))[2]
        self.assertEqual((early.epoch, late.epoch, early.base.length, late.base.length), (4, 4, 5, 8))

    def test_a_house_that_is_over_has_all_entries(self):
        # its base stands for some of them
        facts = stopped(base=2)
        _, memory, later, _ = ended(facts, over(facts), 0)
        self.assertEqual((memory.role, memory.decided, len(later.entries)), ("over", 5, 3))


if __name__ == "__main__":
    unittest.main()
