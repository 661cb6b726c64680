import itertools
import unittest

from halvesmeet.errors import InvalidFacts, InvalidLetter, InvalidNumber, InvalidOperation, TooMany
from halvesmeet.house import serving as module
from halvesmeet.house.asking import row_from
from halvesmeet.house.facts import Facts, lay
from halvesmeet.house.memory import Memory
from halvesmeet.house.serving import answered, served, taken_deed, try_letter
from halvesmeet.net.letters import is_letter
from halvesmeet.store.states import State
from support import THREE, Parameter, check_errors, kind_of_error, number_from
from test_facts import STOPPED, entries_from
from turning import (
    FACTS, FIRST, HOUSE, MEMORY, WITHOUT, check_rules, check_turn, facts_with, letter_parameter, memory_at)

FIVE = (0, 2, 3, 5, 8)
STOP = ("circle", (0, 1))
READ = ("get", "a")
LIST = ("list", "a", "c")


def leading(facts, decided, **fields):
    told = {"role": "leads", "leader": 1, "term": 5, "opening": 2, "laid": {1: 3, 2: 1}, "at": {0: 1, 2: 0}, "reads": (), **fields}
    return memory_at(facts, decided, **told)


def deed_of(client, number, deed, house=1):
    return "deed", client, house, number, deed


def lay_to(facts, memory, goal, house=1):
    """The lay that goes to a house, by what memory knows of it."""
    start = memory.laid.get(goal, memory.at.get(goal))
    return ("lay", facts.epoch, house, goal, memory.term, memory.opening) + row_from(facts, min(start, facts.length)) + (
        memory.decided, memory.round)


class TurnTest(unittest.TestCase):
    def check(self, facts, memory, letter, records, changes, letters, **keywords):
        return check_turn(self, lambda *args, **more: taken_deed(*args, 1, letter, **more), facts, memory, records, changes, letters, **keywords)


class TryTest(TurnTest):
    def test_who_does_not_lead(self):
        facts = facts_with(3, epoch=4)
        for role in ("hears", "asks", "rests", "over"):
            for leader in (None, 0, 2):
                memory = memory_at(facts, 2, role=role, leader=leader)
                for deed in (READ, LIST, ("put", "a", 1), STOP):
                    other = leader if role == "hears" else None
                    self.check(facts, memory, deed_of(3, 7, deed), (), {}, (("try", 1, 3, 7, other, 4, THREE),))

    def test_an_epoch_that_is_over(self):
        facts = Facts(4, THREE, 5, 4, FIRST, entries_from(2) + ((0, 9, STOP),))
        for role in ("over", "hears", "leads", "asks"):
            memory = memory_at(facts, 3, role=role)
            self.check(facts, memory, deed_of(3, 7, ("put", "a", 1)), (), {}, (("try", 1, 3, 7, None, 5, (0, 1)),))
            self.check(facts, memory, deed_of(3, 7, READ), (), {}, (("try", 1, 3, 7, None, 5, (0, 1)),))
        # a stop that is not decided ends nothing
        self.check(facts, memory_at(facts, 2), deed_of(3, 7, READ), (), {}, (("try", 1, 3, 7, 2, 4, THREE),))

    def test_try_letter(self):
        facts = facts_with(3, epoch=4)
        for role, other in (("hears", 2), ("asks", None), ("leads", None), ("rests", None), ("over", None)):
            letter = try_letter(facts, memory_at(facts, 2, role=role), 1, 3, 7)
            self.assertEqual(letter, ("try", 1, 3, 7, other, 4, THREE))
            self.assertTrue(is_letter(letter))
        over = Memory(STOPPED, {"role": "over", "leader": 2})
        self.assertEqual(try_letter(facts, over, 1, 3, 7), ("try", 1, 3, 7, None, 5, (0, 1)))

    def test_errors_of_try_letter(self):
        client = Parameter(3, number_from(0, 4), InvalidNumber)
        check_errors(self, try_letter, [FACTS, MEMORY, HOUSE, client, Parameter(1, number_from(1), InvalidNumber)])
        self.assertEqual(kind_of_error(try_letter, [FACTS.good, MEMORY.good, 1, 3, 0]), (InvalidNumber, 0))


class ChangeTest(TurnTest):
    def test_a_new_deed(self):
        facts = facts_with(3)
        for deed in (("put", "a", 7), ("drop", "a"), ("add", "c", 1), ("swap", "a", 1, None), ("all", (("get", "a"),)), STOP):
            for decided in (1, 2, 3):
                for laid in ({}, {1: 3}, {0: 1, 1: 2, 2: 9}, {2: 3}):
                    memory = leading(facts, decided, laid=laid)
                    entry = (3, 7, deed)
                    later = lay(facts, 5, None, 3, (entry,))[0]
                    letters = (("laid", 0, 1, 1, 5, 4, 3),) + tuple(lay_to(later, memory, goal) for goal in sorted(laid) if goal != 1)
                    self.check(facts, memory, deed_of(3, 7, deed), ((("lay", 5, 3, 0), entry),), {}, letters)

    def test_a_repeated_and_a_late_deed(self):
        facts = Facts(0, THREE, 5, 5, FIRST, ((3, 4, ("put", "a", 1)), (3, 7, ("put", "a", 2)), (2, 1, ("put", "b", 1))))
        memory = leading(facts, 3)
        self.check(facts, memory, deed_of(3, 7, ("put", "a", 2)), (), {}, (("answer", 1, 3, 7, ("was", 1), 2),))
        # by its number alone, whatever the deed is now
        self.check(facts, memory, deed_of(3, 7, STOP), (), {}, (("answer", 1, 3, 7, ("was", 1), 2),))
        for number in (1, 4, 6):
            self.check(facts, memory, deed_of(3, number, ("put", "a", 2)), (), {}, ())
        self.assertEqual(taken_deed(facts, memory, 1, deed_of(3, 8, STOP))[2].length, 4)
        # reads have no part in this
        self.assertEqual(taken_deed(facts, memory, 1, deed_of(3, 4, READ))[1].round, 4)

    def test_an_open_entry_of_the_client(self):
        facts = Facts(0, THREE, 5, 5, FIRST, ((3, 4, ("put", "a", 1)), (3, 7, ("put", "a", 2)), (2, 9, ("put", "b", 1))))
        for decided in (0, 1):
            memory = leading(facts, decided)
            for number in (5, 6, 7):
                self.check(facts, memory, deed_of(3, number, ("put", "a", 2)), (), {}, ())
            self.assertEqual(len(taken_deed(facts, memory, 1, deed_of(3, 8, ("put", "a", 2)))[0]), 1)
            self.assertEqual(len(taken_deed(facts, memory, 1, deed_of(4, 1, ("put", "a", 2)))[0]), 1)
        self.check(facts, leading(facts, 0), deed_of(3, 4, ("put", "a", 2)), (), {}, ())
        self.check(facts, leading(facts, 1), deed_of(3, 4, ("put", "a", 2)), (), {}, (("answer", 1, 3, 4, ("was", None), 1),))

    def test_open_entries(self):
        self.assertEqual(module.MOST_OPEN, 16)
        for base in (0, 3):
            for many in (14, 15, 16, 17):
                facts = facts_with(many + 2, base=base)
                memory = leading(facts, base + 2)
                turn = taken_deed(facts, memory, 1, deed_of(3, 7, ("put", "a", 2)))
                if many < 16:
                    self.assertEqual((len(turn[0]), turn[2].length), (1, base + many + 3))
                else:
                    self.check(facts, memory, deed_of(3, 7, ("put", "a", 2)), (), {}, (("try", 1, 3, 7, None, 0, THREE),))
                # reads are not put into the row
                self.assertEqual(taken_deed(facts, memory, 1, deed_of(3, 7, READ))[1].round, 4)

    def test_behind_a_stop(self):
        rows = ((entries_from(2) + ((0, 9, STOP),), 2, FIRST), (entries_from(1) + ((0, 1, STOP),), 2, FIRST))
        for entries, decided, base in rows:
            facts = Facts(0, THREE, 5, 5, base, entries)
            for deed in (READ, LIST, STOP, ("put", "a", 1)):
                self.check(facts, leading(facts, decided), deed_of(3, 7, deed), (), {}, (("try", 1, 3, 7, None, 0, THREE),))
        facts = Facts(0, THREE, 5, 5, FIRST, entries_from(2) + ((0, 9, STOP),))
        # what is answered, or open, already comes ahead of it
        self.check(facts, leading(facts, 2), deed_of(0, 2, STOP), (), {}, (("answer", 1, 0, 2, ("was", None), 2),))
        self.check(facts, leading(facts, 2), deed_of(0, 9, STOP), (), {}, ())
        folded = Facts(0, THREE, 5, 5, STOPPED, ())
        self.check(folded, Memory(STOPPED, {"role": "leads"}), deed_of(3, 7, READ), (), {}, (("try", 1, 3, 7, None, 1, (0, 1)),))

    def test_no_room(self):
        facts = facts_with(64)
        for client, error in ((3, (TooMany, 64)), (0, None)):
            self.assertEqual(kind_of_error(taken_deed, [facts, leading(facts, 60), 1, deed_of(client, 1, ("put", "a", 1))]), error)
        self.assertIsNone(kind_of_error(taken_deed, [facts, leading(facts, 60), 1, deed_of(3, 1, READ)]))
        least = Facts(0, THREE, 5, 5, State(10 ** 9, {}, {}, None), ())
        self.assertEqual(kind_of_error(taken_deed, [least, Memory(least.base, {"role": "leads", "term": 5}), 1, deed_of(3, 1, ("drop", "a"))]),
                         (InvalidFacts, None))

    def test_errors(self):
        facts = facts_with(3)
        letter = deed_of(3, 7, ("put", "a", 1))
        check_errors(self, taken_deed, [FACTS, MEMORY, HOUSE, letter_parameter(letter), WITHOUT])
        memory = memory_at(facts, 2)
        for other in (deed_of(3, 7, READ, 0), deed_of(3, 7, READ, 8), ("ask", 0, 2, 1, 4, 0), ("begun", 0, 1, 1), ("answer", 1, 1, 1, ("full",), 0),
                      ("try", 1, 1, 1, None, 0, THREE)):
            self.assertEqual(kind_of_error(taken_deed, [facts, memory, 1, other]), (InvalidOperation, None))
        self.assertEqual(kind_of_error(taken_deed, [facts, memory, 3, deed_of(3, 7, READ, 3)]), (InvalidOperation, None))
        self.assertEqual(kind_of_error(taken_deed, [facts, memory, 3, None]), (InvalidLetter, None))


class ReadTest(TurnTest):
    def test_a_new_read(self):
        facts = facts_with(3)
        for deed in (READ, LIST):
            for laid, at in itertools.product(({}, {1: 3}, {0: 1, 1: 2}, {2: 3}), ({}, {0: 0, 1: 1}, {0: 1, 2: 2})):
                for reads in ((), ((3, 6, READ, 1), (2, 7, LIST, 3))):
                    memory = leading(facts, 1, laid=laid, at=at, reads=reads)
                    changes = {"round": 4, "reads": reads + ((3, 7, deed, 4),)}
                    later = memory.but(changes)
                    goals = sorted(set(laid) | set(at) - {1})
                    letters = (("laid", 0, 1, 1, 5, 3, 4),) + tuple(lay_to(facts, later, goal) for goal in goals if goal != 1)
                    self.check(facts, memory, deed_of(3, 7, deed), (), changes, letters)

    def test_a_read_that_waits_already(self):
        facts = facts_with(3)
        memory = leading(facts, 1, reads=((3, 7, READ, 2), (2, 8, READ, 3)))
        for client, number, deed in ((3, 7, READ), (3, 7, LIST), (2, 8, READ)):
            self.check(facts, memory, deed_of(client, number, deed), (), {}, ())
        for client, number in ((3, 8), (2, 7), (4, 7)):
            self.assertEqual(taken_deed(facts, memory, 1, deed_of(client, number, READ))[1].reads[-1], (client, number, READ, 4))
        # a lot with a get in it is no read
        self.assertEqual(len(taken_deed(facts, memory, 1, deed_of(4, 7, ("all", (READ,))))[0]), 1)

    def test_round(self):
        facts = facts_with(3)
        memory = leading(facts, 2)
        for deed, answer in ((READ, ("is", 0)), (LIST, ("rows", (("a", 0), ("b", 1))))):
            plain, told = check_rules(self, lambda rule: taken_deed(facts, memory, 1, deed_of(3, 7, deed), without=rule), ("round",))
            self.check(facts, memory, deed_of(3, 7, deed), (), {}, (("answer", 1, 3, 7, answer, 2),), without="round")
        # also if less than the opening is decided; but not behind a stop, and not by who does not lead
        early = leading(facts, 0, opening=3)
        self.check(facts, early, deed_of(3, 7, READ), (), {}, (("answer", 1, 3, 7, ("is", None), 0),), without="round")
        ended = Facts(0, THREE, 5, 5, FIRST, ((0, 9, STOP),))
        for place, told in ((ended, leading(ended, 0)), (facts, memory_at(facts, 2))):
            check_rules(self, lambda rule: taken_deed(place, told, 1, deed_of(3, 7, READ), without=rule))
        waiting = leading(facts, 2, reads=((3, 7, READ, 2),))
        check_rules(self, lambda rule: taken_deed(facts, waiting, 1, deed_of(3, 7, READ), without=rule))
        for number in (1, 2, 9):
            check_rules(self, lambda rule: taken_deed(facts, memory, 1, deed_of(0, number, ("put", "a", 0)), without=rule))

    def test_whole(self):
        facts = facts_with(5, circle=FIVE[:1] + (1,) + FIVE[1:])
        # 0 and 2 have laid; to 3, 5 and 8 goes a first lay
        memory = leading(facts, 2, laid={0: 0, 1: 5, 2: 1}, at={0: 0, 1: 2, 3: 0, 5: 2, 8: 3})
        for deed in (READ, LIST):
            plain, told = check_rules(self, lambda rule: taken_deed(facts, memory, 1, deed_of(3, 7, deed), without=rule), ("whole", "round"))
            self.assertEqual(plain[:3], told["whole"][:3])
            self.assertEqual([(letter[3], letter[8]) for letter in plain[3][1:]], [
                (0, entries_from(5)), (2, entries_from(4, 1)), (3, entries_from(5)), (5, entries_from(3, 2)), (8, entries_from(2, 3))])
            self.assertEqual([(letter[3], letter[8]) for letter in told["whole"][3][1:]], [
                (0, entries_from(5)), (2, entries_from(4, 1)), (3, entries_from(2)), (5, entries_from(2, 2)), (8, entries_from(2, 3))])
            self.assertEqual([letter[:8] + letter[9:] for letter in plain[3]], [letter[:8] + letter[9:] for letter in told["whole"][3]])
        # a deed that is no read goes to those that have laid, and none of these lays is a first one
        plain, told = check_rules(self, lambda rule: taken_deed(facts, memory, 1, deed_of(3, 7, ("put", "a", 7)), without=rule))
        self.assertEqual([(letter[3], len(letter[8])) for letter in told["whole"][3][1:]], [(0, 6), (2, 5)])


class AnsweredTest(unittest.TestCase):
    def test_each_length(self):
        entries = ((3, 4, ("put", "a", 1)), (2, 1, ("add", "b", 5)), (3, 4, ("put", "a", 9)), (3, 2, ("drop", "a")), (2, 3, ("get", "a")))
        wished = (("answer", 1, 3, 4, ("was", None), 1), ("answer", 1, 2, 1, ("sum", 5), 2), ("answer", 1, 3, 4, ("was", None), 1), None,
                  ("answer", 1, 2, 3, ("is", 1), 5))
        facts = Facts(0, THREE, 5, 5, FIRST, entries)
        for decided in range(6):
            for length in range(decided + 1):
                told = tuple(letter for letter in wished[length:decided] if letter is not None)
                for role in ("rests", "hears", "asks", "leads", "over"):
                    self.assertEqual(answered(facts, memory_at(facts, decided, role=role), 1, length), told if role == "leads" else ())
                self.assertTrue(all(is_letter(letter) for letter in told))

    def test_behind_a_base(self):
        facts = facts_with(3, base=2, client=2)
        memory = leading(facts, 4)
        self.assertEqual(answered(facts, memory, 1, 2), (("answer", 1, 2, 3, ("was", None), 3), ("answer", 1, 2, 4, ("was", None), 4)))
        for length, error in ((1, (InvalidNumber, 1)), (2, None), (4, None), (5, (InvalidNumber, 5)), (0, (InvalidNumber, 0))):
            self.assertEqual(kind_of_error(answered, [facts, memory, 1, length]), error)
            self.assertEqual(kind_of_error(answered, [facts, memory.but({"role": "hears"}), 1, length]), error)

    def test_a_copy_has_the_place_of_its_session(self):
        base = FIRST.run(entries_from(2))
        facts = Facts(0, THREE, 5, 5, base, ((0, 2, ("put", "b", 1)), (0, 1, ("put", "b", 1)), (0, 3, STOP)))
        self.assertEqual(answered(facts, leading(facts, 5), 1, 2), (("answer", 1, 0, 2, ("was", None), 2), ("answer", 1, 0, 3, ("next", (0, 1)), 5)))

    def test_errors(self):
        facts = Parameter(facts_with(3, base=2), FACTS.is_right, InvalidFacts)
        memory = Parameter(leading(facts.good, 4), MEMORY.is_right, MEMORY.kind)
        check_errors(self, answered, [facts, memory, HOUSE, Parameter(3, number_from(2, 4), InvalidNumber)])
        self.assertEqual(kind_of_error(answered, [facts.good, memory.good, 3, 3]), (InvalidOperation, None))
        self.assertEqual(kind_of_error(answered, [facts.good, memory.good, 3, 5]), (InvalidNumber, 5))


class ServedTest(unittest.TestCase):
    def check(self, facts, memory, house, reads, answers):
        before = memory.but({})
        later, told = served(facts, memory, house)
        self.assertEqual((later, told), (memory.but({"reads": reads}), answers))
        self.assertEqual(memory, before)
        self.assertTrue(all(is_letter(letter) for letter in told))

    def test_just_half_and_just_more(self):
        for circle in ((1,), (1, 2), THREE, (0, 1, 2, 3), FIVE[:1] + (1,) + FIVE[2:], tuple(range(6)), tuple(range(7))):
            facts = facts_with(2, circle=circle)
            read = (3, 7, READ, 4)
            for many in range(len(circle) + 1):
                for more in (4, 5):
                    heard = {house: (more if at < many else 3) for at, house in enumerate(circle)}
                    memory = leading(facts, 2, heard=heard, reads=(read,))
                    if 2 * many > len(circle):
                        self.check(facts, memory, 1, (), (("answer", 1, 3, 7, ("is", 0), 2),))
                    else:
                        self.check(facts, memory, 1, (read,), ())
        # houses that have not been heard, or are out of the circle, do not count
        facts = facts_with(2)
        for heard in ({0: 4}, {0: 4, 8: 4, 7: 4}, {8: 4, 7: 4, 6: 4}):
            self.check(facts, leading(facts, 2, heard=heard, reads=((3, 7, READ, 4),)), 1, ((3, 7, READ, 4),), ())

    def test_the_opening(self):
        facts = facts_with(4)
        for opening in range(5):
            for decided in range(5):
                memory = leading(facts, decided, opening=opening, heard={0: 4, 1: 4}, reads=((3, 7, READ, 4),))
                if decided >= opening:
                    answer = ("is", 0 if decided > 0 else None)
                    self.check(facts, memory, 1, (), (("answer", 1, 3, 7, answer, decided),))
                else:
                    self.check(facts, memory, 1, memory.reads, ())

    def test_several_reads(self):
        facts = facts_with(3)
        reads = ((3, 7, READ, 2), (2, 1, LIST, 4), (4, 4, ("get", "b"), 3), (0, 9, READ, 5), (1, 5, READ, 1))
        memory = leading(facts, 3, heard={0: 4, 1: 3, 2: 4}, reads=reads)
        self.check(facts, memory, 1, (reads[3],), (
            ("answer", 1, 3, 7, ("is", 0), 3), ("answer", 1, 2, 1, ("rows", (("a", 0), ("b", 1))), 3), ("answer", 1, 4, 4, ("is", 1), 3),
            ("answer", 1, 1, 5, ("is", 0), 3)))
        # what is decided counts, not the row
        early = leading(facts, 2, heard={0: 4, 2: 4}, reads=((3, 7, ("list", "a", "z"), 4),))
        self.check(facts, early, 1, (), (("answer", 1, 3, 7, ("rows", (("a", 0), ("b", 1))), 2),))

    def test_who_does_not_lead(self):
        facts = facts_with(3)
        for role in ("rests", "hears", "asks", "over"):
            memory = leading(facts, 3, role=role, heard={0: 4, 1: 4}, reads=((3, 7, READ, 4),))
            self.check(facts, memory, 1, memory.reads, ())
        self.check(facts, leading(facts, 3, reads=()), 1, (), ())

    def test_errors(self):
        check_errors(self, served, [FACTS, MEMORY, HOUSE])
        self.assertEqual(kind_of_error(served, [FACTS.good, MEMORY.good, 3]), (InvalidOperation, None))


class NotTrueTest(unittest.TestCase):
    def test_each_answer_comes_from_the_house_to_which_the_deed_was_sent(self):
        # the house 2 put the entry into the row, but the house 1 leads when it is decided
        facts = facts_with(1, client=3)
        self.assertEqual(answered(facts, leading(facts, 1, opening=1), 1, 0), (("answer", 1, 3, 1, ("was", None), 1),))

    def test_a_read_sees_all_that_was_in_some_row(self):
        # the entry is in the row ahead of the call, but not decided when the read is served
        facts = facts_with(1)
        memory = taken_deed(facts, Memory(FIRST, {"role": "leads", "term": 5}), 1, deed_of(3, 7, READ))[1]
        later = memory.but({"heard": {0: 1, 1: 1}})
        self.assertEqual(served(facts, later, 1)[1], (("answer", 1, 3, 7, ("is", None), 0),))


if __name__ == "__main__":
    unittest.main()
