import random
import unittest

from halvesmeet.disk.halves import Book
from halvesmeet.disk.journal import is_record
from halvesmeet.errors import (
    InvalidCircle, InvalidDeed, InvalidFacts, InvalidNumber, InvalidRecord, InvalidState, Refused, TooMany)
from halvesmeet.house import facts as module
from halvesmeet.house.facts import Facts, begin, facts_of_records, fold, lay, promise, records_of_facts
from halvesmeet.store.deeds import is_entry
from halvesmeet.store.states import State
from support import THREE, Parameter, check_errors, is_row_of, kind_of_error, number_from, odd_values, parts_of_all
from test_deeds import is_right_circle

GET = ("get", "a")
STOP = (0, 99, ("circle", (0, 1)))
MOST = 10 ** 9
FIRST = State.first()


def entries_from(many, start=0, client=0):
    """So many entries, each unlike the others."""
    return tuple((client, start + at + 1, ("put", "abcdefgh"[(start + at) % 8], start + at)) for at in range(many))


STOPPED = FIRST.run(entries_from(2) + (STOP,))
NEW = Facts.begun(0, THREE, FIRST)
ROW = Facts(1, THREE, 7, 5, FIRST.run(entries_from(4)), entries_from(3, 4))
FACTS = Parameter(ROW, lambda value: isinstance(value, Facts), InvalidFacts)
STATES = Parameter(FIRST, lambda value: isinstance(value, State), InvalidState)
CIRCLES = Parameter(THREE, is_right_circle, InvalidCircle)
ENTRIES = Parameter((), is_row_of(is_entry), InvalidDeed)
PROMISED = Parameter(-1, number_from(-1), InvalidNumber)


def members_of(facts):
    return facts.epoch, facts.circle, facts.promised, facts.accepted, facts.base, facts.entries


def row_of(facts):
    """The state behind the whole row."""
    return facts.base.run(facts.entries)


class FactsTest(unittest.TestCase):
    def test_members(self):
        self.assertEqual(module.MAX_ENTRIES, 64)
        base = FIRST.run(entries_from(2))
        facts = Facts(3, (4, 5), 6, 2, base, entries_from(3, 2))
        self.assertEqual(members_of(facts), (3, (4, 5), 6, 2, base, entries_from(3, 2)))
        self.assertEqual([facts.length, facts.is_ended, str(facts)], [5, False, "epoch 3, term 2 of 6, row 2 + 3"])
        self.assertEqual(str(NEW), "epoch 0, term -1 of -1, row 0 + 0")

    def test_right_facts(self):
        longest = State(MOST - 2, {}, {}, None)
        for members in ((0, THREE, -1, -1, FIRST, ()), (0, THREE, 5, -1, FIRST, ()), (0, THREE, 0, 0, FIRST, ()),
                        (0, THREE, 5, 5, FIRST, entries_from(64)), (0, THREE, 5, 0, FIRST, entries_from(1)),
                        (0, THREE, 5, 5, FIRST, entries_from(63) + (STOP,)), (0, THREE, 5, 5, FIRST, (STOP,)),
                        (0, THREE, 5, 5, STOPPED, ()), (0, THREE, -1, -1, STOPPED, ()),
                        (0, THREE, 5, 5, longest, entries_from(2)), (10 ** 60 - 1, (8,), 10 ** 60 - 1, 10 ** 60 - 1, FIRST, ()),
                        (0, THREE, 5, 5, STOPPED.reopened(), entries_from(1)),
                        (0, THREE, 5, 5, State(MOST, {}, {}, None), ())):
            self.assertEqual(members_of(Facts(*members)), members)

    def test_each_broken_condition(self):
        rows = (
            ((0, THREE, 5, 5, FIRST, entries_from(65)), (TooMany, 64)),
            ((0, THREE, 5, 6, FIRST, ()), (InvalidNumber, 6)),
            ((0, THREE, -1, 0, FIRST, ()), (InvalidNumber, 0)),
            ((0, THREE, 5, -1, FIRST, entries_from(1)), (InvalidFacts, None)),
            ((0, THREE, 5, 5, STOPPED, entries_from(1)), (InvalidFacts, None)),
            ((0, THREE, 5, 5, STOPPED, (STOP,)), (InvalidFacts, None)),
            ((0, THREE, 5, 5, FIRST, (STOP,) + entries_from(1)), (InvalidFacts, None)),
            ((0, THREE, 5, 5, FIRST, (STOP, STOP)), (InvalidFacts, None)),
            ((0, THREE, 5, 5, FIRST, entries_from(1) + (STOP,) + entries_from(1)), (InvalidFacts, None)),
            ((0, THREE, 5, 5, State(MOST - 2, {}, {}, None), entries_from(3)), (InvalidFacts, None)),
            ((0, THREE, 5, 5, State(MOST, {}, {}, None), entries_from(1)), (InvalidFacts, None)),
            # too many entries come ahead of all that else is not right
            ((0, THREE, 5, -1, STOPPED, (STOP,) * 65), (TooMany, 64)))
        for members, error in rows:
            self.assertEqual(kind_of_error(Facts, members), error, members)

    def test_ended(self):
        self.assertIs(Facts(0, THREE, 5, 5, FIRST, entries_from(1) + (STOP,)).is_ended, True)
        self.assertIs(Facts(0, THREE, 5, 5, FIRST, (STOP,)).is_ended, True)
        self.assertIs(Facts(0, THREE, 5, 5, STOPPED, ()).is_ended, True)
        self.assertIs(Facts(0, THREE, 5, 5, STOPPED.reopened(), ()).is_ended, False)
        self.assertIs(Facts(0, THREE, 5, 5, FIRST, entries_from(1)).is_ended, False)

    def test_the_row(self):
        self.assertEqual([ROW.entry(index) for index in (4, 5, 6)], list(entries_from(3, 4)))
        self.assertEqual([ROW.tail(start) for start in (4, 5, 6, 7)], [entries_from(3 - at, 4 + at) for at in range(4)])
        for start in range(4, 8):
            self.assertEqual(ROW.state_at(start), FIRST.run(entries_from(start)))
        for index in (3, 7, -1, True, None, 10 ** 60):
            self.assertEqual(kind_of_error(ROW.entry, [index]), (InvalidNumber, index))
        for start in (3, 8, -1, True, None, 10 ** 60):
            self.assertEqual(kind_of_error(ROW.tail, [start]), (InvalidNumber, start))
            self.assertEqual(kind_of_error(ROW.state_at, [start]), (InvalidNumber, start))
        ended = Facts(0, THREE, 5, 5, STOPPED, ())
        self.assertEqual([ended.tail(3), ended.state_at(3)], [(), STOPPED])
        self.assertEqual(kind_of_error(ended.entry, [3]), (InvalidNumber, 3))

    def test_begun(self):
        self.assertEqual(members_of(Facts.begun(2, (3, 4), STOPPED)), (2, (3, 4), -1, -1, STOPPED.reopened(), ()))
        self.assertEqual(members_of(Facts.begun(2, (3, 4), FIRST, 9)), (2, (3, 4), 9, -1, FIRST, ()))

    def test_equality(self):
        all_facts = [NEW, ROW, Facts.begun(1, THREE, FIRST), Facts.begun(0, (0, 1), FIRST), Facts.begun(0, THREE, FIRST, 1),
                     Facts(0, THREE, 1, 1, FIRST, ()), Facts.begun(0, THREE, STOPPED), Facts(0, THREE, 1, 1, FIRST, (STOP,))]
        for i, one in enumerate(all_facts):
            for j, other in enumerate(all_facts):
                self.assertEqual([one == other, one != other], [i == j, i != j])
        for value in odd_values():
            if not isinstance(value, Facts):
                self.assertEqual([NEW == value, NEW != value], [False, True])
        self.assertTrue(NEW == Facts.begun(0, THREE, State.first()) and not NEW != Facts.begun(0, THREE, State.first()))
        self.assertRaises(TypeError, iter, NEW)

    def test_errors_of_the_class(self):
        epochs = Parameter(1, number_from(0), InvalidNumber)
        promised = Parameter(5, number_from(-1), InvalidNumber)
        check_errors(self, Facts, [epochs, CIRCLES, promised, Parameter(5, number_from(-1, 5), InvalidNumber), STATES, ENTRIES])
        check_errors(self, Facts.begun, [epochs, CIRCLES, STATES, PROMISED])
        self.assertEqual(kind_of_error(Facts, [0, THREE, 5, 5, FIRST, (STOP,) * 65 + (5,)]), (InvalidDeed, None))
        self.assertEqual(kind_of_error(Facts, [0, THREE, 5, 5, FIRST, list(entries_from(2))]), (InvalidDeed, None))


class StepsTest(unittest.TestCase):
    def check(self, told, members, record):
        later, written = told
        self.assertEqual(members_of(later), members)
        self.assertEqual(written, record)
        self.assertTrue(is_record(written))

    def test_promise(self):
        told = members_of(ROW)
        self.check(promise(ROW, 8), told[:2] + (8,) + told[3:], (("promise", 8),))
        self.check(promise(NEW, 0), (0, THREE, 0, -1, FIRST, ()), (("promise", 0),))
        for term in (7, 0, -1, True, None, 10 ** 60):
            self.assertEqual(kind_of_error(promise, [ROW, term]), (InvalidNumber, term))
        self.assertEqual(members_of(ROW), told)

    def test_fold(self):
        told = members_of(ROW)
        for length in (5, 6, 7):
            members = told[:4] + (FIRST.run(entries_from(length)), entries_from(7 - length, length))
            self.check(fold(ROW, length), members, (("fold", length),))
            self.assertEqual(row_of(fold(ROW, length)[0]), row_of(ROW))
        for length in (4, 8, 0, True, None, 10 ** 60):
            self.assertEqual(kind_of_error(fold, [ROW, length]), (InvalidNumber, length))
        ended = Facts(0, THREE, 5, 5, FIRST, entries_from(2) + (STOP,))
        self.check(fold(ended, 3), (0, THREE, 5, 5, STOPPED, ()), (("fold", 3),))
        self.assertEqual(kind_of_error(fold, [NEW, 0]), (InvalidNumber, 0))
        # a stop that is a copy folds to a base without a next circle
        late = Facts(0, THREE, 5, 5, FIRST, ((0, 99, GET), STOP))
        self.assertEqual([late.is_ended, fold(late, 2)[0].is_ended], [True, False])

    def test_begin(self):
        head = ("begin", 3, (4, 5), -1)
        self.check(begin(None, 3, (4, 5), FIRST), (3, (4, 5), -1, -1, FIRST, ()), (head, ("state", 0, None)))
        opened = STOPPED.reopened()
        self.check(begin(ROW, 1, (4, 5), STOPPED, 6), (1, (4, 5), 6, -1, opened, ()), (("begin", 1, (4, 5), 6),) + opened.parts())
        for epoch in (0, -1, True, None, 10 ** 60):
            self.assertEqual(kind_of_error(begin, [ROW, epoch, THREE, FIRST]), (InvalidNumber, epoch))
        self.assertEqual(begin(NEW, 0, THREE, FIRST)[0], NEW)
        self.assertEqual(begin(None, 0, THREE, FIRST)[0], NEW)

    def test_errors_of_steps(self):
        check_errors(self, promise, [Parameter(ROW, FACTS.is_right, InvalidFacts), Parameter(8, number_from(8), InvalidNumber)])
        check_errors(self, fold, [FACTS, Parameter(5, number_from(5, 7), InvalidNumber)])
        for good, least in ((None, 0), (ROW, 1)):
            before = Parameter(good, lambda value: value is None or isinstance(value, Facts), InvalidFacts)
            check_errors(self, begin, [before, Parameter(1, number_from(least), InvalidNumber), CIRCLES, STATES, PROMISED])
        check_errors(self, records_of_facts, [FACTS])


class LayTest(unittest.TestCase):
    check = StepsTest.check

    def test_behind_the_row(self):
        told = members_of(ROW)
        more = entries_from(2, 7)
        self.check(lay(ROW, 5, None, 7, more), told[:3] + (5, told[4], told[5] + more), (("lay", 5, 7, 0),) + more)
        self.check(lay(ROW, 9, None, 7, ()), told[:2] + (9, 9) + told[4:], (("lay", 9, 7, 0),))
        self.assertEqual(members_of(ROW), told)

    def test_a_lesser_term(self):
        told = members_of(ROW)
        self.check(lay(ROW, 0, None, 7, ()), told[:2] + (7, 0) + told[4:], (("lay", 0, 7, 0),))

    def test_the_row_is_kept_up_to_a_start(self):
        told = members_of(ROW)
        for start in (4, 5, 6, 7):
            others = entries_from(2, start, client=1)
            members = told[:3] + (5, told[4], told[5][:start - 4] + others)
            self.check(lay(ROW, 5, None, start, others), members, (("lay", 5, start, 0),) + others)
            self.check(lay(ROW, 5, None, start, ()), told[:3] + (5, told[4], told[5][:start - 4]), (("lay", 5, start, 0),))

    def test_what_the_own_base_has_is_left_out(self):
        told = members_of(ROW)
        for start in range(5):
            others = entries_from(6 - start, start, client=2)
            members = told[:3] + (5, told[4], entries_from(2, 4, client=2))
            self.check(lay(ROW, 5, None, start, others), members, (("lay", 5, start, 0),) + others)
        for length in range(5):
            base = FIRST.run(entries_from(length))
            others = entries_from(6 - length, length, client=2)
            record = (("lay", 5, length, len(base.parts())),) + base.parts() + others
            self.check(lay(ROW, 5, base, length, others), told[:3] + (5, told[4], entries_from(2, 4, client=2)), record)

    def test_a_base_that_is_not_longer_is_another_one(self):
        base = State(4, {"z": 9}, {}, None)
        later = lay(ROW, 5, base, 4, ())[0]
        self.assertEqual([later.base, later.entries], [ROW.base, ()])

    def test_a_longer_base(self):
        told = members_of(ROW)
        for length in (5, 6, 7, 8, 20):
            base = FIRST.run(entries_from(length, client=3))
            others = entries_from(2, length, client=3)
            record = (("lay", 8, length, len(base.parts())),) + base.parts() + others
            self.check(lay(ROW, 8, base, length, others), told[:2] + (8, 8, base, others), record)
        self.check(lay(NEW, 0, STOPPED, 3, ()), (0, THREE, 0, 0, STOPPED, ()), (("lay", 0, 3, 4),) + STOPPED.parts())

    def test_refusals(self):
        for start in (8, 9, 1000, 10 ** 60 - 1):
            for entries in ((), entries_from(3), entries_from(65), (STOP, STOP)):
                self.assertEqual(kind_of_error(lay, [ROW, 5, None, start, entries]), (Refused, ("gap",)))
        for start, many in ((0, 3), (0, 0), (3, 0), (1, 2)):
            self.assertEqual(kind_of_error(lay, [ROW, 5, None, start, entries_from(many)]), (Refused, ("short",)))
            base = FIRST.run(entries_from(start, client=3))
            self.assertEqual(kind_of_error(lay, [ROW, 5, base, start, entries_from(many)]), (Refused, ("short",)))
        self.assertEqual(lay(ROW, 5, None, 4, ())[0].length, 4)
        self.assertEqual(lay(ROW, 5, None, 1, entries_from(3, 1))[0].length, 4)

    def test_room(self):
        self.assertEqual(len(lay(NEW, 5, None, 0, entries_from(64))[0].entries), 64)
        self.assertEqual(kind_of_error(lay, [NEW, 5, None, 0, entries_from(65)]), (TooMany, 64))
        self.assertEqual(len(lay(ROW, 5, None, 7, entries_from(61))[0].entries), 64)
        self.assertEqual(kind_of_error(lay, [ROW, 5, None, 7, entries_from(62)]), (TooMany, 64))
        # of the told ones, too, though the own base has some of them
        self.assertEqual(len(lay(ROW, 5, None, 0, entries_from(64))[0].entries), 60)
        self.assertEqual(kind_of_error(lay, [ROW, 5, None, 0, entries_from(65)]), (TooMany, 64))
        base = FIRST.run(entries_from(1))
        self.assertEqual(kind_of_error(lay, [ROW, 5, base, 1, entries_from(65)]), (TooMany, 64))
        self.assertEqual(kind_of_error(lay, [ROW, 5, None, 7, (STOP,) * 65]), (TooMany, 64))

    def test_the_longest_record(self):
        sessions = {client: (1, ("was", None), client + 1) for client in range(5)}
        base = State(9, {chr(97 + at): 0 for at in range(24)}, sessions, None)
        facts, record = lay(NEW, 1, base, 9, entries_from(64))
        self.assertEqual([len(record), is_record(record), is_record(records_of_facts(facts)[0])], [95, True, True])

    def test_facts_that_are_not_right(self):
        self.assertEqual(kind_of_error(lay, [ROW, 5, None, 7, (STOP,) + entries_from(1)]), (InvalidFacts, None))
        ended = lay(ROW, 5, None, 7, (STOP,))[0]
        self.assertEqual(kind_of_error(lay, [ended, 5, None, 8, entries_from(1)]), (InvalidFacts, None))
        self.assertEqual(lay(ended, 5, None, 7, entries_from(1))[0].length, 8)
        folded = Facts(0, THREE, 5, 5, STOPPED, ())
        self.assertEqual(kind_of_error(lay, [folded, 5, None, 3, entries_from(1)]), (InvalidFacts, None))
        self.assertEqual(kind_of_error(lay, [folded, 5, None, 0, entries_from(4)]), (InvalidFacts, None))
        self.assertEqual(lay(folded, 5, None, 0, entries_from(3))[0].base, STOPPED)
        self.assertEqual(kind_of_error(lay, [NEW, 5, STOPPED, 3, entries_from(1)]), (InvalidFacts, None))
        longest = State(MOST, {}, {}, None)
        self.assertEqual(kind_of_error(lay, [NEW, 5, longest, MOST, entries_from(1)]), (InvalidFacts, None))
        self.assertEqual(lay(NEW, 5, longest, MOST, ())[0].length, MOST)
        near = Facts(0, THREE, 5, 5, State(MOST - 1, {}, {}, None), ())
        self.assertEqual(lay(near, 5, None, MOST - 1, entries_from(1))[0].length, MOST)
        self.assertEqual(kind_of_error(lay, [near, 5, None, MOST - 1, entries_from(2)]), (InvalidFacts, None))

    def test_the_start_of_a_base(self):
        base = FIRST.run(entries_from(5))
        for start in (4, 6, 0, 7, -1, True, None, 10 ** 60):
            self.assertEqual(kind_of_error(lay, [ROW, 5, base, start, ()]), (InvalidNumber, start))
            self.assertEqual(kind_of_error(lay, [ROW, 5, base, start, 5]), (InvalidNumber, start))

    def test_errors(self):
        terms = Parameter(5, number_from(0), InvalidNumber)
        none = Parameter(None, lambda value: value is None or isinstance(value, State), InvalidState)
        check_errors(self, lay, [FACTS, terms, none, Parameter(7, number_from(0), InvalidNumber), ENTRIES])
        check_errors(self, lay, [FACTS, terms, Parameter(State(9, {}, {}, None), none.is_right, InvalidState),
                                 Parameter(9, number_from(9, 9), InvalidNumber), ENTRIES])
        self.assertEqual(kind_of_error(lay, [ROW, 5, None, 99, 5]), (InvalidDeed, None))


def random_step(chance, facts):
    """Any step from some facts that can be done: the later facts, and the record."""
    while True:
        kind = chance.randrange(8)
        try:
            if kind == 0:
                return promise(facts, facts.promised + chance.randrange(1, 3))
            if kind == 1:
                return fold(facts, facts.base.length + chance.randrange(1, 4))
            if kind == 2 and chance.randrange(4) == 0:
                return begin(facts, facts.epoch + chance.randrange(2), chance.choice(((0,), THREE)),
                             row_of(facts), chance.choice((-1, 3)))
            if kind == 3:
                base = FIRST.run(entries_from(facts.base.length + chance.randrange(-2, 4), client=3))
                return lay(facts, facts.promised + 1, base, base.length, entries_from(chance.randrange(4), client=2))
            if kind > 3:
                stop = (STOP,) if chance.randrange(9) == 0 else ()
                start = max(0, facts.length - chance.randrange(3))
                return lay(facts, max(0, facts.promised) + chance.randrange(2), None, start,
                           entries_from(chance.randrange(3), start, client=1) + stop)
        except (Refused, InvalidNumber, InvalidFacts, TooMany):
            pass


def random_steps(chance, many):
    """The facts and the records of some steps, one behind the other."""
    facts, record = begin(None, chance.randrange(3), THREE, FIRST.run(entries_from(chance.randrange(3))))
    told, records = [facts], (record,)
    if chance.randrange(2):
        records = records_of_facts(facts)
    for _ in range(many):
        facts, record = random_step(chance, facts)
        told.append(facts)
        records += (record,)
    return told, records


class RecordsTest(unittest.TestCase):
    def wrong(self, records):
        self.assertEqual(kind_of_error(facts_of_records, [records]), (InvalidRecord, None), records)

    def test_none_and_whole(self):
        self.assertIsNone(facts_of_records(()))
        ended = Facts(0, THREE, 5, 5, STOPPED, ())
        for facts in (NEW, ROW, ended, Facts(0, THREE, 5, 5, FIRST, entries_from(63) + (STOP,)), Facts.begun(9, (8,), STOPPED, 4)):
            records = records_of_facts(facts)
            self.assertEqual(len(records), 1)
            self.assertEqual(facts_of_records(records), facts)
            head = ("facts", facts.epoch, facts.circle, facts.promised, facts.accepted, len(facts.base.parts()))
            self.assertEqual(records, ((head,) + facts.base.parts() + facts.entries,))

    def test_steps_and_their_records(self):
        chance = random.Random(18)
        for _ in range(60):
            told, records = random_steps(chance, 8)
            for many, facts in enumerate(told):
                self.assertEqual(facts_of_records(records[:many + 1]), facts)
                self.assertEqual(facts_of_records(records_of_facts(facts) + records[many + 1:]), told[-1])
                self.assertEqual(facts_of_records(records_of_facts(facts)), facts)

    def test_rows_of_records_that_mean_nothing(self):
        whole, one, two = records_of_facts(ROW), promise(ROW, 8)[1], fold(ROW, 6)[1]
        self.assertEqual(facts_of_records(whole + (one, two)), fold(promise(ROW, 8)[0], 6)[0])
        for records in ((one,), (two,), (one,) + whole, whole + whole, whole + (one, one), whole + (two, two), whole + (one,) + whole,
                        (lay(NEW, 1, None, 0, ())[1],), whole + (("promise", 7),), whole + ((),), list(whole), whole + (None,),
                        whole + ((("begin", 0, THREE, -1), ("state", 0, None)),), whole + (one[0],), whole + ([one[0]],)):
            self.wrong(records)
        begun = begin(ROW, 1, THREE, FIRST)[1]
        self.assertEqual(facts_of_records(whole + (begun,)), Facts.begun(1, THREE, FIRST))
        self.assertEqual(facts_of_records(whole + (begun, begun)), Facts.begun(1, THREE, FIRST))

    def test_refused_steps(self):
        whole = records_of_facts(ROW)
        many = entries_from(64, 7)
        for record in ((("lay", 5, 8, 0),), (("lay", 5, 0, 0),) + entries_from(3), (("lay", 5, 7, 0),) + many,
                       (("lay", 5, 7, 0), STOP, STOP), (("fold", 4),), (("fold", 8),), (("promise", 7),),
                       (("lay", 5, 7, 1), ("state", 0, None)), (("lay", 5, 9, 2), ("state", 9, None)),
                       (("lay", 5, 9, 3), ("state", 9, None)), (("lay", 5, 7, -1),), (("lay", 5, 7, 1),), (("lay", -1, 7, 0),), (("lay", 5, 2, 1), ("state", 2, None))):
            self.wrong(whole + (record,))
        self.assertEqual(facts_of_records(whole + ((("lay", 5, 7, 0),) + many[:61],)).length, 68)
        self.assertEqual(facts_of_records(whole + ((("lay", 5, 9, 1), ("state", 9, None)),)).base, State(9, {}, {}, None))

    def test_a_begin_tells_no_stop(self):
        head = ("begin", 3, THREE, -1)
        self.wrong(((head,) + STOPPED.parts(),))
        self.assertEqual(facts_of_records(((head,) + STOPPED.reopened().parts(),)), Facts.begun(3, THREE, STOPPED))
        self.assertEqual(facts_of_records((lay_whole(STOPPED),)).base, STOPPED)

    def test_the_number_of_parts_in_a_whole_record(self):
        head, *rest = records_of_facts(Facts(0, THREE, 0, 0, State(9, {"a": 1}, {}, None), ()))[0]
        for many in (-1, 0, 1, 3, 4, 5, True, None):
            self.wrong(((head[:5] + (many,), *rest),))
        self.assertEqual(facts_of_records(((head[:5] + (2,), *rest),)).base.pairs, {"a": 1})

    def test_one_member_exchanged(self):
        first = begin(None, 1, THREE, FIRST.run(entries_from(2)))[1]
        facts = facts_of_records((first,))
        base = FIRST.run(entries_from(4))
        records = (first, promise(facts, 2)[1], lay(facts, 3, base, 4, entries_from(2, 4))[1], fold(ROW, 5)[1])
        facts_of_records(records)
        odd = odd_values() + [("state", 2, None), "facts", "begin", "promise", "lay", "fold"]
        for row in (records, records_of_facts(ROW) + (fold(ROW, 5)[1],)):
            for at, record in enumerate(row):
                for place, item in enumerate(record):
                    self.check_exchanged(row, at, place, odd)
                    for inner in range(len(item)):
                        for value in odd:
                            changed = item[:inner] + (value,) + item[inner + 1:]
                            self.check_same_or_wrong(replaced(row, at, replaced(record, place, changed)))
                        self.wrong(replaced(row, at, replaced(record, place, item[:inner] + item[inner + 1:])))

    def check_exchanged(self, row, at, place, odd):
        record = row[at]
        for value in odd:
            self.check_same_or_wrong(replaced(row, at, replaced(record, place, value)))
            self.check_same_or_wrong(replaced(row, at, record[:place] + (value,) + record[place:]))
        self.check_same_or_wrong(replaced(row, at, record[:place] + record[place + 1:]))
        self.check_same_or_wrong(replaced(row, at, record[:place] + (record[place],) + record[place:]))

    def check_same_or_wrong(self, records):
        """Records that mean something are those that the steps make."""
        error = kind_of_error(facts_of_records, [records])
        if error is not None:
            self.assertEqual(error, (InvalidRecord, None), records)
        else:
            self.assertEqual(again(records), records)

    def test_left_out_doubled_put_in(self):
        chance = random.Random(19)
        for _ in range(25):
            told, records = random_steps(chance, 6)
            other = random_steps(chance, 3)[1]
            for at in range(len(records)):
                for changed in (records[:at] + records[at + 1:], records[:at] + records[at:at + 1] + records[at:],
                                records[:at] + other[-1:] + records[at:], records[:at] + other[:1] + records[at:],
                                records[:at] + records[::-1][:len(records) - at]):
                    if changed:
                        self.check_same_or_wrong(changed)

    def test_errors(self):
        check_errors(self, facts_of_records, [Parameter(records_of_facts(NEW), lambda value: value == (), InvalidRecord)])

    def test_facts_across_cuts(self):
        chance = random.Random(20)
        for _ in range(25):
            told, records = random_steps(chance, 5)
            sure = chance.randrange(1, 3)
            book = Book.fresh().turned(records[:1]).synced()
            for record in records[1:sure]:
                book = book.added(record).synced()
            if chance.randrange(2):
                book = book.turned(records_of_facts(told[sure - 1]))
            for record in records[sure:]:
                book = book.added(record)
            for kept in self.some_parts(chance, book.disk.waiting):
                self.assertIn(facts_of_records(Book(book.fallen(kept)).records), told[sure - 1:])
            self.assertEqual(facts_of_records(Book(book.synced().disk).records), told[-1])

    def some_parts(self, chance, puts):
        if len(puts) <= 6:
            return parts_of_all(puts)
        return [tuple(at for at in range(len(puts)) if chance.randrange(3)) for _ in range(40)]

    def test_not_true(self):
        longer = Facts(0, THREE, 5, 2, FIRST, entries_from(3))
        later = Facts(0, THREE, 5, 4, FIRST, entries_from(1))
        # that facts with a later accepted term have the longer row
        self.assertTrue(later.accepted > longer.accepted and later.length < longer.length)
        # that what is accepted is chosen: another lay takes it out again
        self.assertEqual(lay(longer, 6, None, 0, ())[0].length, 0)


def lay_whole(base):
    """The whole record of facts with a base and nothing else."""
    return records_of_facts(Facts(0, THREE, 0, 0, base, ()))[0]


def replaced(row, at, value):
    return row[:at] + (value,) + row[at + 1:]


def again(records):
    """The records of the steps that some records tell, each done again."""
    facts = facts_of_records(records[:1])
    made = records_of_facts(facts)
    if records[0][0][0] == "begin":
        made = (begin(None, facts.epoch, facts.circle, facts.base, facts.promised)[1],)
    for at, record in enumerate(records[1:]):
        word, rest = record[0][0], record[0][1:]
        if word == "promise":
            made += (promise(facts, rest[0])[1],)
        elif word == "fold":
            made += (fold(facts, rest[0])[1],)
        later = facts_of_records(records[:at + 2])
        if word == "begin":
            made += (begin(facts, later.epoch, later.circle, later.base, later.promised)[1],)
        elif word == "lay":
            base = None if rest[2] == 0 else told_state(record[1:1 + rest[2]])
            made += (lay(facts, rest[0], base, rest[1], record[1 + rest[2]:])[1],)
        facts = later
    return made


def told_state(parts):
    """The state with some parts, put together without reading them as the program does."""
    pairs = {part[1]: part[2] for part in parts if part[0] == "pair"}
    sessions = {part[1]: part[2:] for part in parts if part[0] == "session"}
    return State(parts[0][1], pairs, sessions, parts[0][2])


if __name__ == "__main__":
    unittest.main()
