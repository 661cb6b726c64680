import itertools
import random
import unittest

from halvesmeet.errors import InvalidFacts, InvalidNumber, InvalidOperation, Refused, TooMany
from halvesmeet.house.asking import row_from
from halvesmeet.house.facts import Facts, fold
from halvesmeet.house.laying import decided_to, folded, is_fitting, lay_letter, taken_laid, taken_lay
from halvesmeet.house.memory import Memory
from halvesmeet.store.states import State
from support import THREE, Parameter, check_errors, kind_of_error, number_from
from test_facts import entries_from
from turning import (
    FACTS, FIRST, HOUSE, MEMORY, WITHOUT, check_rules, check_turn, check_words, facts_with, letter_parameter, memory_at)

FIVE = (0, 2, 3, 5, 8)
HEARS = {"role": "hears", "grants": {}, "reads": (), "counter": 0}
STOP = (0, 99, ("circle", (0, 1)))


def lay_of(term, row, *, first=0, decided=0, heard=0, goal=2, house=1, epoch=0):
    """A lay with a row: the base or None, the start, and the entries."""
    base, start, entries = row
    parts = None if base is None else base.parts()
    return "lay", epoch, goal, house, term, first, parts, start, entries, decided, heard


def leading(facts, decided, **fields):
    return memory_at(facts, decided, **{"role": "leads", "leader": 1, "term": 4, "opening": 2, "laid": {1: 3}, "at": {2: 1}, **fields})


class LayLetterTest(unittest.TestCase):
    def test_starts(self):
        facts = facts_with(3, base=4)
        for laid, at in itertools.product((None,) + tuple(range(10)), repeat=2):
            if laid is None and at is None:
                continue
            memory = leading(facts, 5, laid={} if laid is None else {2: laid}, at={} if at is None else {2: at})
            start = min(at if laid is None else laid, 7)
            told = (facts.base.parts(), 4, facts.entries) if start < 4 else (None, start, entries_from(7 - start, start))
            self.assertEqual(lay_letter(facts, memory, 1, 2), ("lay", 0, 1, 2, 4, 2) + told + (5, 3))

    def test_goals(self):
        facts = facts_with(3, circle=FIVE)
        memory = leading(facts, 2, laid={2: 3, 0: 1}, at={5: 1, 2: 0})
        for goal in (0, 5):
            self.assertEqual(lay_letter(facts, memory, 2, goal)[2:4], (2, goal))
        for goal in (2, 3, 8, 1, 9, -1, True, False, None, (0,), [0], {}, "0", 10 ** 60):
            self.assertEqual(kind_of_error(lay_letter, [facts, memory, 2, goal]), (InvalidOperation, None), goal)
        for role in ("rests", "hears", "asks", "over"):
            self.assertEqual(kind_of_error(lay_letter, [facts, memory.but({"role": role}), 2, 0]), (InvalidOperation, None))

    def test_whole(self):
        facts = facts_with(5)
        for many in range(6):
            # to a house that has not laid yet, and to one that has
            first = leading(facts, 2, laid={}, at={2: 5 - many})
            later = leading(facts, 2, laid={2: 5 - many}, at={2: 0})
            plain, told = check_rules(self, lambda rule: lay_letter(facts, first, 1, 2, without=rule), ("whole",) if many > 2 else ())
            self.assertEqual((plain[8], told["whole"][8]), (entries_from(many, 5 - many), entries_from(min(many, 2), 5 - many)))
            self.assertEqual(plain[:8] + plain[9:], told["whole"][:8] + told["whole"][9:])
            check_rules(self, lambda rule: lay_letter(facts, later, 1, 2, without=rule))
        based = facts_with(4, base=3)
        told = lay_letter(based, leading(based, 4, laid={}, at={2: 0}), 1, 2, without="whole")
        self.assertEqual(told[6:9], (based.base.parts(), 3, entries_from(2, 3)))

    def test_errors(self):
        facts = facts_with(3)
        goal = Parameter(2, lambda value: type(value) is int and value == 2, InvalidOperation)
        memory = Parameter(leading(facts, 2), MEMORY.is_right, MEMORY.kind)
        # a wrong goal comes behind all others, as it is told with "then"
        check_errors(self, lambda one, two, three, without=None: lay_letter(one, two, three, 2, without=without),
                     [Parameter(facts, FACTS.is_right, FACTS.kind), memory, HOUSE, WITHOUT])
        check_errors(self, lambda told: lay_letter(facts, memory.good, 1, told), [goal])
        self.assertEqual(kind_of_error(lay_letter, [facts, memory.good, 9, None]), (InvalidNumber, 9))
        self.assertEqual(kind_of_error(lay_letter, [facts, memory.good, 3, 2]), (InvalidOperation, None))


def does_fit(facts, decided, letter, without=None):
    """Whether a lay fits, by the words of the document."""
    _, _, _, _, term, first, base, start, entries, _, _ = letter
    end = start + len(entries)
    if term < facts.promised and without != "promise":
        return False
    if facts.accepted == term and facts.length >= start:
        return True
    has_all = (end >= first or without == "whole") and end >= decided
    return (base is not None or start <= decided) and has_all


class FittingTest(unittest.TestCase):
    def test_all_small_lays(self):
        facts = facts_with(3, base=1)
        seen = set()
        for term in (3, 4, 5, 6):
            for accepted in (4, 5):
                own = Facts(0, THREE, 5, accepted, facts.base, facts.entries)
                for start, many, first, decided in itertools.product(range(6), range(4), range(7), (1, 2, 4)):
                    for base in (None, FIRST.run(entries_from(start))):
                        letter = lay_of(term, (base, start, entries_from(many, start)), first=first)
                        memory = memory_at(own, decided)
                        for rule in (None, "promise", "whole"):
                            wished = does_fit(own, decided, letter, rule)
                            self.assertIs(is_fitting(own, memory, letter, without=rule), wished, (letter, rule))
                            seen.add((rule, wished))
        self.assertEqual(len(seen), 6)

    def test_edges(self):
        facts = facts_with(3, promised=5, accepted=4)
        memory = memory_at(facts, 2)
        # (term, start, number of entries, first): whether it fits
        rows = (((4, 0, 3, 0), False), ((5, 0, 3, 0), True), ((6, 2, 1, 3), True), ((6, 2, 1, 4), False), ((6, 3, 1, 0), False),
                ((6, 2, 0, 0), True), ((6, 1, 1, 0), True), ((6, 1, 0, 0), False), ((6, 0, 1, 0), False), ((6, 0, 2, 2), True))
        for (term, start, many, first), wished in rows:
            letter = lay_of(term, (None, start, entries_from(many, start)), first=first)
            self.assertIs(is_fitting(facts, memory, letter), wished, letter)
        # who has accepted just this term needs a row as long as the start, and nothing else
        own = facts_with(3, promised=5, accepted=5)
        for start, wished in ((0, True), (2, True), (3, True), (4, False)):
            self.assertIs(is_fitting(own, memory, lay_of(5, (None, start, ()), first=9)), wished)
        # a base fits wherever it stands
        base = FIRST.run(entries_from(8))
        self.assertTrue(is_fitting(own, memory, lay_of(6, (base, 8, ()), first=8)))
        self.assertFalse(is_fitting(own, memory, lay_of(6, (base, 8, ()), first=9)))

    def test_rules(self):
        facts = facts_with(3)
        memory = memory_at(facts, 2)
        for term, start, many, first, changing in ((6, 2, 1, 3, ()), (4, 2, 1, 3, ("promise",)), (6, 2, 1, 9, ("whole",)),
                                                   (4, 2, 1, 9, ("promise",)), (3, 2, 1, 9, ()), (6, 3, 1, 0, ()), (6, 0, 1, 1, ())):
            letter = lay_of(term, (None, start, entries_from(many, start)), first=first)
            check_rules(self, lambda rule: is_fitting(facts, memory, letter, without=rule), changing)

    def test_errors(self):
        letter = lay_of(6, (None, 0, ()))
        check_errors(self, is_fitting, [FACTS, MEMORY, letter_parameter(letter), WITHOUT])
        for other in (lay_of(6, (None, 0, ()), epoch=1), ("laid", 0, 2, 1, 6, 0, 0), ("deed", 0, 1, 1, ("get", "a")), ("begun", 0, 2, 1)):
            self.assertEqual(kind_of_error(is_fitting, [FACTS.good, MEMORY.good, other]), (InvalidOperation, None))
        # whom it comes from or goes to does not matter
        self.assertTrue(is_fitting(FACTS.good, MEMORY.good, lay_of(6, (None, 0, ()), goal=8, house=8)))


class LayTest(unittest.TestCase):
    def check(self, facts, memory, letter, records, changes, letters, **keywords):
        return check_turn(self, lambda *args, **more: taken_lay(*args, 1, letter, **more), facts, memory, records, changes, letters, **keywords)

    def check_taken(self, facts, memory, letter, records, state, **keywords):
        """Checks a lay that is taken: the state that is decided, and what goes back."""
        _, _, goal, _, term, _, _, start, entries, _, heard = letter
        length = max(facts.length, start + len(entries)) if records == () else start + len(entries)
        changes = {**HEARS, "leader": goal, "floor": max(memory.floor, term), "state": state}
        self.check(facts, memory, letter, records, changes, (("laid", 0, 1, goal, term, length, heard),), **keywords)

    def record_of(self, letter):
        _, _, _, _, term, _, parts, start, entries, _, _ = letter
        parts = () if parts is None else parts
        return (("lay", term, start, len(parts)),) + parts + entries

    def test_below_the_promised_term(self):
        facts = facts_with(3)
        for term in (0, 4):
            for fields in ({"role": "leads"}, {"role": "asks", "floor": 2}, {}):
                memory = memory_at(facts, 2, **fields)
                self.check(facts, memory, lay_of(term, (None, 0, entries_from(9)), decided=9), (),
                           {"floor": max(term, memory.floor)}, (("bar", 0, 1, 2, term, 5),))

    def test_at_and_above_the_promised_term(self):
        facts = facts_with(3)
        for term in (5, 6, 10 ** 9):
            for role in ("leads", "asks", "hears"):
                for row in ((None, 2, ()), (None, 2, entries_from(4, 2, client=1)), (None, 0, entries_from(2)), (None, 1, entries_from(9, 1))):
                    letter = lay_of(term, row, heard=8, goal=0)
                    self.check_taken(facts, memory_at(facts, 2, role=role), letter, (self.record_of(letter),), facts.state_at(2))

    def test_the_same_term_again(self):
        facts = facts_with(5, promised=5, accepted=5)
        # just as long, and shorter: nothing is written
        for start, many in ((0, 5), (5, 0), (2, 3), (2, 2), (0, 0), (4, 0)):
            letter = lay_of(5, (None, start, entries_from(many, start, client=3)), first=9)
            self.check_taken(facts, memory_at(facts, 2), letter, (), facts.state_at(2))
        # longer: it is written
        for start, many in ((0, 6), (5, 1), (3, 4)):
            letter = lay_of(5, (None, start, entries_from(many, start)), first=9)
            self.check_taken(facts, memory_at(facts, 2), letter, (self.record_of(letter),), facts.state_at(2))
        base = FIRST.run(entries_from(5))
        self.check_taken(facts, memory_at(facts, 2), lay_of(5, (base, 5, ())), (), facts.state_at(2))

    def test_what_is_decided(self):
        facts = facts_with(3)
        memory = memory_at(facts, 2)
        for told in range(9):
            for term, start, many in ((5, 2, 4), (6, 1, 1), (6, 2, 1)):
                letter = lay_of(term, (None, start, entries_from(many, start)), decided=told)
                length = max(2, min(told, start + many))
                self.check_taken(facts, memory, letter, (self.record_of(letter),), FIRST.run(entries_from(length)))
        own = facts_with(5, promised=5, accepted=5)
        for told in range(9):
            letter = lay_of(5, (None, 2, entries_from(1, 2)), decided=told)
            self.check_taken(own, memory_at(own, 1), letter, (), FIRST.run(entries_from(max(1, min(told, 5)))))

    def test_a_base(self):
        facts = facts_with(3, base=1)
        for length in (0, 1, 2, 3, 4, 9):
            base = FIRST.run(entries_from(length))
            for told in (0, length, length + 1, length + 2, length + 3):
                letter = lay_of(6, (base, length, entries_from(2, length)), decided=told)
                if length + 2 >= 2:
                    known = max(min(told, length + 2), 2, length)
                    self.check_taken(facts, memory_at(facts, 2), letter, (self.record_of(letter),), FIRST.run(entries_from(known)))

    def test_room(self):
        many = entries_from(64)
        facts = facts_with(4, promised=5, accepted=5)
        letter = lay_of(6, (None, 0, many))
        self.check_taken(facts, memory_at(facts, 0), letter, (self.record_of(letter),), FIRST)
        letter = lay_of(6, (None, 1, entries_from(63, 1)))
        self.check_taken(facts, memory_at(facts, 1), letter, (self.record_of(letter),), FIRST.run(entries_from(1)))
        # entries in the base do not count
        based = facts_with(4, base=10, promised=5, accepted=5)
        letter = lay_of(6, (None, 12, entries_from(62, 12)))
        self.check_taken(based, memory_at(based, 12), letter, (self.record_of(letter),), FIRST.run(entries_from(12)))
        letter = lay_of(6, (None, 12, entries_from(63, 12)))
        self.check_taken(based, memory_at(based, 12), letter, ((("fold", 12),), self.record_of(letter)), FIRST.run(entries_from(12)))
        # 65 entries behind the base: what is decided is folded ahead of the lay
        for term in (5, 6):
            for start in (1, 3):
                letter = lay_of(term, (None, start, entries_from(65 - start, start)))
                self.check_taken(facts, memory_at(facts, 3), letter, ((("fold", 3),), self.record_of(letter)), FIRST.run(entries_from(3)))
        # what is told as decided is decided ahead of this just by who has accepted the term
        letter = lay_of(5, (None, 1, entries_from(64, 1)), decided=3)
        self.check_taken(facts, memory_at(facts, 1), letter, ((("fold", 3),), self.record_of(letter)), FIRST.run(entries_from(3)))
        letter = lay_of(6, (None, 1, entries_from(64, 1)), decided=3)
        self.check_taken(facts, memory_at(facts, 1), letter, ((("fold", 1),), self.record_of(letter)), FIRST.run(entries_from(3)))
        # and then as far as its row goes
        letter = lay_of(5, (None, 2, entries_from(64, 2)), decided=9)
        self.check_taken(facts, memory_at(facts, 1), letter, ((("fold", 4),), self.record_of(letter)), FIRST.run(entries_from(9)))

    def test_no_room(self):
        facts = facts_with(4, promised=5, accepted=5)
        memory = memory_at(facts, 0)
        self.assertEqual(kind_of_error(taken_lay, [facts, memory, 1, lay_of(5, (None, 1, entries_from(64, 1)))]), (TooMany, 64))
        self.assertEqual(kind_of_error(taken_lay, [facts, memory, 1, lay_of(5, (None, 3, entries_from(64, 3)), decided=1)]), (TooMany, 64))
        self.assertEqual(kind_of_error(taken_lay, [facts, memory, 1, lay_of(5, (None, 3, entries_from(64, 3)), decided=3)]), None)
        # a longer base stands in the place of the row: its entries have room
        base = FIRST.run(entries_from(60))
        letter = lay_of(6, (base, 60, entries_from(64, 60)))
        self.check_taken(facts, memory_at(facts, 3), letter, (self.record_of(letter),), base)

    def test_lays_that_cannot_be_done(self):
        facts = facts_with(2, base=4, promised=5, accepted=5)
        self.assertEqual(kind_of_error(taken_lay, [facts, Memory(FIRST), 1, lay_of(6, (None, 0, entries_from(2)))]), (Refused, ("short",)))
        far = Memory(State(9, {}, {}, None))
        self.assertEqual(kind_of_error(taken_lay, [facts, far, 1, lay_of(6, (None, 9, ()))]), (Refused, ("gap",)))
        self.assertEqual(kind_of_error(taken_lay, [facts, memory_at(facts, 4), 1, lay_of(6, (None, 4, (STOP, STOP)))]), (InvalidFacts, None))

    def test_what_does_not_fit(self):
        facts = facts_with(3, base=1)
        for term in (5, 6):
            records = () if term == 5 else ((("promise", 6),),)
            for decided in (1, 2, 4):
                start = decided
                told = (None, start, entries_from(4 - start, start))
                for row, first in (((None, decided + 1, entries_from(3)), 0), ((None, 0, entries_from(decided)), decided + 1),
                                   ((None, 0, entries_from(decided - 1)), 0)):
                    changes = {**HEARS, "leader": 0, "floor": 6}
                    letter = lay_of(term, row, first=first, decided=9, goal=0)
                    self.check(facts, memory_at(facts, decided, role="leads"), letter, records, changes,
                               (("grant", 0, 1, 0, term, 4, decided) + told,))

    def test_promise(self):
        facts = facts_with(3)
        memory = memory_at(facts, 2, role="leads")
        letter = lay_of(4, (None, 2, entries_from(3, 2)), decided=3)
        plain, told = check_rules(self, lambda rule: taken_lay(facts, memory, 1, letter, without=rule), ("promise",))
        self.assertEqual((plain[3], told["promise"][3]), ((("bar", 0, 1, 2, 4, 5),), (("laid", 0, 1, 2, 4, 5, 0),)))
        self.check_taken(facts, memory, letter, (self.record_of(letter),), FIRST.run(entries_from(3)), without="promise")
        self.assertEqual((told["promise"][2].promised, told["promise"][2].accepted), (5, 4))
        # one that does not fit: nothing is promised, and the grant tells the lower term
        letter = lay_of(3, (None, 3, entries_from(3, 3)), decided=3)
        check_rules(self, lambda rule: taken_lay(facts, memory, 1, letter, without=rule), ("promise",))
        self.check(facts, memory, letter, (), {**HEARS, "leader": 2}, (("grant", 0, 1, 2, 3, 4, 2, None, 2, entries_from(1, 2)),), without="promise")
        for term in (5, 6):
            letter = lay_of(term, (None, 2, entries_from(3, 2)), decided=3)
            check_rules(self, lambda rule: taken_lay(facts, memory, 1, letter, without=rule))

    def test_whole(self):
        facts = facts_with(3)
        letter = lay_of(6, (None, 2, entries_from(2, 2)), first=9)
        plain, told = check_rules(self, lambda rule: taken_lay(facts, memory_at(facts, 2), 1, letter, without=rule), ("whole",))
        self.assertEqual((plain[3][0][0], told["whole"][3]), ("grant", (("laid", 0, 1, 2, 6, 4, 0),)))
        self.check_taken(facts, memory_at(facts, 2), letter, (self.record_of(letter),), facts.state_at(2), without="whole")

    def test_errors(self):
        facts = facts_with(3)
        letter = lay_of(9, (None, 0, ()))
        check_words(self, taken_lay, facts, memory_at(facts, 2), 1, letter)
        check_errors(self, taken_lay, [FACTS, MEMORY, HOUSE, letter_parameter(letter), WITHOUT])
        self.assertEqual(kind_of_error(taken_lay, [facts, memory_at(facts, 2), 1, lay_of(9, (None, 0, ()), goal=1)]), (InvalidOperation, None))


class LaidTest(unittest.TestCase):
    """The house 2 of FIVE leads the term 4 with five entries, of which it has decided one."""

    def setUp(self):
        self.facts = facts_with(5, circle=FIVE)

    def leading(self, laid, decided=1, **fields):
        return leading(self.facts, decided, **{"leader": 2, "laid": laid, "at": {8: 0}, "heard": {0: 1}, **fields})

    def check(self, memory, letter, changes, letters=(), **keywords):
        check_turn(self, lambda *args, **more: taken_laid(*args, 2, letter, **more), self.facts, memory, (), changes, letters, **keywords)

    def lay_to(self, memory, goal, laid, decided):
        told = row_from(self.facts, min(laid, 5))
        return ("lay", 0, 2, goal, 4, memory.opening) + told + (decided, memory.round)

    def test_in_other_terms_and_roles(self):
        for role, own, term in (("leads", 4, 3), ("leads", 4, 5), ("leads", 4, 9), ("hears", 4, 4), ("asks", 4, 4), ("over", 4, 4)):
            memory = self.leading({2: 5, 3: 5}, role=role, term=own)
            self.check(memory, ("laid", 0, 0, 2, term, 5, 9), {"floor": max(6, term)})

    def test_one_short_of_more_than_half_and_just_more(self):
        memory = self.leading({2: 5}, heard={})
        self.check(memory, ("laid", 0, 0, 2, 4, 5, 2), {"laid": {0: 5, 2: 5}, "heard": {0: 2}})
        memory = self.leading({2: 5, 0: 5})
        self.check(memory, ("laid", 0, 3, 2, 4, 5, 2), {"laid": {0: 5, 2: 5, 3: 5}, "heard": {0: 1, 3: 2}, "state": self.facts.state_at(5)})
        for circle, many in (((2,), 1), ((2, 3), 2), ((1, 2, 3), 2), ((0, 1, 2, 3), 3), (tuple(range(6)), 4), (tuple(range(7)), 4)):
            facts = facts_with(2, circle=circle)
            memory = Memory(FIRST, {"role": "leads", "term": 4})
            for number, house in enumerate(circle, start=1):
                memory = taken_laid(facts, memory, 2, ("laid", 0, house, 2, 4, 2, 0))[1]
                self.assertEqual(memory.decided, 2 if number >= many else 0)

    def test_each_length(self):
        for lengths in itertools.product((0, 2, 5, 7), repeat=2):
            for length in (0, 1, 2, 4, 5, 6, 9):
                laid = {0: lengths[0], 3: lengths[1], 2: 5}
                memory = self.leading(laid, heard={})
                grown = {**laid, 0: max(length, lengths[0])}
                chosen = sorted([grown.get(house, 0) for house in FIVE])[2]
                decided = max(1, min(chosen, 5))
                letters = (self.lay_to(memory, 0, grown[0], decided),) if grown[0] < 5 else ()
                self.check(memory, ("laid", 0, 0, 2, 4, length, 3), {"laid": grown, "heard": {0: 3}, "state": self.facts.state_at(decided)}, letters)

    def test_doubled_late_and_falling(self):
        memory = self.leading({2: 5, 0: 4, 8: 5}, decided=4, heard={0: 7})
        for length, heard in ((4, 7), (4, 6), (2, 7), (0, 0)):
            self.check(memory, ("laid", 0, 0, 2, 4, length, heard), {}, (self.lay_to(memory, 0, 4, 4),))
        self.check(memory, ("laid", 0, 0, 2, 4, 3, 9), {"heard": {0: 9}}, (self.lay_to(memory, 0, 4, 4),))
        self.check(memory, ("laid", 0, 0, 2, 4, 5, 1), {"laid": {0: 5, 2: 5, 8: 5}, "state": self.facts.state_at(5)})
        self.check(self.leading({}, heard={}), ("laid", 0, 0, 2, 4, 0, 0), {"laid": {0: 0}, "heard": {0: 0}}, (self.lay_to(memory, 0, 0, 1),))

    def test_who_gets_a_further_lay(self):
        memory = self.leading({}, heard={})
        for house in FIVE:
            for length in (3, 4, 5, 6):
                letters = (self.lay_to(memory, house, length, 1),) if house != 2 and length < 5 else ()
                self.check(memory, ("laid", 0, house, 2, 4, length, 1), {"laid": {house: length}, "heard": {house: 1}}, letters)

    def test_as_far_as_the_row_goes(self):
        memory = self.leading({0: 9, 3: 9}, heard={})
        self.check(memory, ("laid", 0, 8, 2, 4, 9, 0), {"laid": {0: 9, 3: 9, 8: 9}, "heard": {8: 0}, "state": self.facts.state_at(5)})

    def test_half(self):
        facts = facts_with(2, circle=(1, 2, 5, 8))
        memory = leading(facts, 0, laid={2: 2, 5: 1}, heard={})
        for house, length, changing in ((1, 2, ("half",)), (1, 1, ()), (1, 0, ("half",)), (8, 2, ("half",))):
            plain, told = check_rules(self, lambda rule: taken_laid(facts, memory, 2, ("laid", 0, house, 2, 4, length, 0), without=rule), changing)
            laid = sorted([{**memory.laid, house: length}.get(at, 0) for at in facts.circle], reverse=True)
            self.assertEqual((plain[1].decided, told["half"][1].decided), (laid[2], laid[1]))
        check_rules(self, lambda rule: taken_laid(self.facts, self.leading({2: 5, 0: 2}), 2, ("laid", 0, 3, 2, 4, 4, 0), without=rule))

    def test_term(self):
        memory = self.leading({2: 5, 0: 2}, heard={})
        letter = ("laid", 0, 3, 2, 3, 5, 6)
        plain, told = check_rules(self, lambda rule: taken_laid(self.facts, memory, 2, letter, without=rule), ("term",))
        self.check(memory, letter, {})
        self.check(memory, letter, {"laid": {0: 2, 2: 5, 3: 5}, "heard": {3: 6}, "state": self.facts.state_at(2)}, without="term")
        # of later terms, and in another role, nothing is counted
        check_rules(self, lambda rule: taken_laid(self.facts, memory, 2, ("laid", 0, 3, 2, 5, 5, 6), without=rule))
        asking = memory.but({"role": "asks"})
        check_rules(self, lambda rule: taken_laid(self.facts, asking, 2, letter, without=rule))

    def test_whole_is_of_first_lays_alone(self):
        memory = self.leading({2: 5}, at={8: 0})
        check_rules(self, lambda rule: taken_laid(self.facts, memory, 2, ("laid", 0, 8, 2, 4, 0, 0), without=rule))

    def test_errors(self):
        facts = facts_with(3)
        letter = ("laid", 0, 2, 1, 9, 0, 0)
        check_words(self, taken_laid, facts, memory_at(facts, 2), 1, letter)
        check_errors(self, taken_laid, [FACTS, MEMORY, HOUSE, letter_parameter(letter), WITHOUT])


class DecidedTest(unittest.TestCase):
    def test_bounds(self):
        facts = facts_with(4, base=2)
        for decided in range(2, 7):
            memory = memory_at(facts, decided)
            for length in (0, 1, 2, 3, 4, 5, 6, 7, 10 ** 9, 10 ** 60 - 1):
                later = decided_to(facts, memory, length)
                self.assertEqual(later, memory.but({"state": facts.state_at(max(decided, min(length, 6)))}))
                self.assertEqual(memory, memory_at(facts, decided))
        # never fewer than the base has
        self.assertEqual(decided_to(facts, Memory(FIRST), 0), Memory(facts.base))
        self.assertEqual(decided_to(facts, Memory(FIRST), 1), Memory(facts.base))
        self.assertEqual(decided_to(facts, Memory(FIRST), 3), Memory(facts.state_at(3)))
        # not fewer than before, also if this is more than the row has
        far = Memory(State(9, {}, {}, None))
        self.assertEqual(decided_to(facts, far, 4), far)

    def test_folded(self):
        for base in (0, 2):
            facts = facts_with(13, base=base)
            for decided in range(14):
                memory = memory_at(facts, base + decided)
                for many in range(1, 13):
                    records, later = folded(facts, memory, many)
                    if decided >= many:
                        self.assertEqual((records, later), (((("fold", base + decided),),), fold(facts, base + decided)[0]))
                        self.assertEqual(later.base, memory.state)
                    else:
                        self.assertEqual((records, later), ((), facts))

    def test_errors(self):
        check_errors(self, decided_to, [FACTS, MEMORY, Parameter(0, number_from(0), InvalidNumber)])
        check_errors(self, folded, [FACTS, MEMORY, Parameter(1, number_from(1, 12), InvalidNumber)])
        for many in (0, 13):
            self.assertEqual(kind_of_error(folded, [FACTS.good, MEMORY.good, many]), (InvalidNumber, many))


class InductionTest(unittest.TestCase):
    def test_no_lay_that_fits_takes_out_what_was_chosen(self):
        # the house 1 has accepted a chosen row: a later owner that was granted by more than half tells all of it
        chance = random.Random(14)
        for _ in range(300):
            facts = facts_with(chance.randrange(6), base=chance.randrange(3), accepted=chance.randrange(6))
            decided = facts.base.length + chance.randrange(len(facts.entries) + 1)
            start = chance.randrange(8)
            base = FIRST.run(entries_from(start)) if chance.randrange(2) else None
            letter = lay_of(chance.randrange(3, 8), (base, start, entries_from(chance.randrange(5), start)), decided=chance.randrange(9))
            memory = memory_at(facts, decided)
            later = taken_lay(facts, memory, 1, letter)
            self.assertTrue(later[2].length >= decided and later[1].decided >= decided)
            self.assertEqual(later[2].state_at(later[1].decided), later[1].state)
            if is_fitting(facts, memory, letter):
                self.assertEqual(later[2].state_at(max(decided, later[2].base.length)),
                                 FIRST.run(entries_from(max(decided, later[2].base.length))))


class NotTrueTest(unittest.TestCase):
    def test_an_entry_of_an_elder_term(self):
        # two of three have it, but in the elder term 3: that is not counted by who leads the term 4
        facts = facts_with(1)
        memory = leading(facts, 0, laid={1: 0}, heard={})
        self.assertEqual(taken_laid(facts, memory, 1, ("laid", 0, 2, 1, 3, 1, 0))[1].decided, 0)
        # and a lay that fits takes it out again
        later = taken_lay(facts, memory, 1, lay_of(6, (None, 0, ())))[2]
        self.assertEqual((facts.length, later.length), (1, 0))

    def test_a_chosen_entry_lies_on_more_than_half_of_the_disks_for_ever(self):
        facts = facts_with(3)
        self.assertEqual((len(facts.entries), folded(facts, memory_at(facts, 3), 1)[1].entries), (3, ()))

    def test_if_a_house_leads_no_other_one_does(self):
        # the house 1 still leads the term 4 when it is told of the term 6
        facts = facts_with(1)
        self.assertEqual(leading(facts, 0).role, "leads")
        self.assertEqual(taken_lay(facts, leading(facts, 0), 1, lay_of(6, (None, 0, ())))[1].leader, 2)


if __name__ == "__main__":
    unittest.main()
