import random
import unittest

from halvesmeet.errors import InvalidFacts, InvalidHouse, InvalidNumber, InvalidOperation, Refused
from halvesmeet.house import asking as module
from halvesmeet.house.asking import (
    asked, best_grant, is_out_of_patience, row_from, taken_ask, taken_bar, taken_grant)
from halvesmeet.house.facts import Facts, fold, lay
from halvesmeet.house.memory import Memory
from halvesmeet.store.states import State
from support import THREE, Parameter, check_errors, kind_of_error, number_from
from test_facts import entries_from
from test_memory import GRANTS
from turning import (
    FACTS, FIRST, HOUSE, MEMORY, ODD_FIELDS, WITHOUT, check_rules, check_turn, check_words, facts_with, letter_parameter, memory_at)

FIVE = (0, 2, 3, 5, 8)
HEARS_NOBODY = {"role": "hears", "leader": None, "grants": {}, "reads": ()}


def ask(facts, goal, house, term, decided):
    return "ask", facts.epoch, goal, house, term, decided


def grant(facts, goal, house, term, rest):
    return ("grant", facts.epoch, goal, house, term) + rest


class RowTest(unittest.TestCase):
    def test_each_start(self):
        facts = facts_with(3, base=4)
        for start in range(8):
            if start < 4:
                self.assertEqual(row_from(facts, start), (facts.base.parts(), 4, facts.entries))
            else:
                self.assertEqual(row_from(facts, start), (None, start, entries_from(7 - start, start)))
        self.assertEqual(row_from(FACTS.good, 0), (None, 0, ()))
        self.assertEqual(kind_of_error(row_from, [facts, 8]), (InvalidNumber, 8))

    def test_what_is_told_makes_the_row_again(self):
        facts = facts_with(3, base=4)
        for start in range(8):
            base, start, entries = row_from(facts, start)
            other = facts_with(start)
            later = lay(other, 6, None if base is None else facts.base, start, entries)[0]
            self.assertEqual(later.state_at(7), facts.state_at(7))

    def test_errors(self):
        check_errors(self, row_from, [Parameter(facts_with(3, base=4), FACTS.is_right, InvalidFacts), Parameter(7, number_from(0, 7), InvalidNumber)])


class AskedTest(unittest.TestCase):
    def test_the_turn(self):
        for circle in (THREE, FIVE, (4,)):
            for house in circle:
                for promised in (-1, 0, 4, 9):
                    for floor in (-1, 0, 3, 9, 12):
                        facts = Facts.begun(3, circle, FIRST.run(entries_from(2)), promised)
                        memory = Memory(facts.base, {**ODD_FIELDS, "floor": floor})
                        term = min(later for later in range(max(floor, promised) + 1, 30) if circle[later % len(circle)] == house)
                        changes = {"role": "asks", "term": term, "grants": {}, "reads": (), "counter": 0, "leader": None, "floor": term}
                        letters = tuple(("ask", 3, house, goal, term, 2) for goal in circle)
                        check_turn(self, lambda *args: asked(*args, house), facts, memory, (), changes, letters)

    def test_each_role(self):
        facts = facts_with(2)
        for role in ("rests", "hears", "asks", "leads", "over"):
            turn = asked(facts, memory_at(facts, 1, role=role), 1)
            self.assertEqual((turn[0], turn[1].role, turn[1].term), ((), "asks", 7))

    def test_patience(self):
        self.assertEqual(module.PATIENCE, 3)
        for circle in (THREE, FIVE, (4,)):
            facts = Facts.begun(0, circle, FIRST)
            for place, house in enumerate(circle):
                for counter in range(12):
                    memory = Memory(FIRST, {**ODD_FIELDS, "counter": counter})
                    self.assertIs(is_out_of_patience(facts, memory, house), counter >= 3 + place)

    def test_errors(self):
        for function in (asked, is_out_of_patience):
            facts = Parameter(Facts.begun(0, tuple(range(7)), FIRST), FACTS.is_right, InvalidFacts)
            check_errors(self, function, [facts, MEMORY, HOUSE])
            for house in (3, 8):
                self.assertEqual(kind_of_error(function, [FACTS.good, MEMORY.good, house]), (InvalidOperation, None))
                self.assertEqual(kind_of_error(function, [FACTS.good, None, house]), (InvalidHouse, None))


class AskTest(unittest.TestCase):
    def check(self, facts, memory, letter, records, changes, letters, **keywords):
        check_turn(self, lambda *args, **more: taken_ask(*args, 1, letter, **more), facts, memory, records, changes, letters, **keywords)

    def test_above_the_promised_term(self):
        facts = facts_with(3)
        for term in (6, 7, 10 ** 9):
            for role in ("hears", "asks", "leads"):
                changes = {**HEARS_NOBODY, "counter": 0, "floor": max(6, term)}
                letter = ("grant", 0, 1, 2, term, 4, 2, None, 1, entries_from(2, 1))
                self.check(facts, memory_at(facts, 2, role=role), ask(facts, 2, 1, term, 1), ((("promise", term),),), changes, (letter,))

    def test_its_own_ask(self):
        facts = facts_with(3)
        records, letter = ((("promise", 7),),), ("grant", 0, 1, 1, 7, 4, 2, None, 2, entries_from(1, 2))
        # of the term that it asks: nothing but the floor changes
        self.check(facts, memory_at(facts, 2, role="asks", term=7), ask(facts, 1, 1, 7, 2), records, {"floor": 7}, (letter,))
        # of another term, or in another role: it only hears, but its counter stays
        for fields in ({"role": "asks", "term": 4}, {"role": "asks", "term": 10}, {"role": "leads", "term": 7}, {"role": "hears", "term": 7}):
            self.check(facts, memory_at(facts, 2, **fields), ask(facts, 1, 1, 7, 2), records, {**HEARS_NOBODY, "floor": 7}, (letter,))
        # the same term, but asked by another house
        self.check(facts, memory_at(facts, 2, role="asks", term=7), ask(facts, 2, 1, 7, 2), records,
                   {**HEARS_NOBODY, "floor": 7, "counter": 0}, (("grant", 0, 1, 2) + letter[4:],))

    def test_the_promised_term(self):
        facts = facts_with(3)
        for goal in THREE:
            letter = ("grant", 0, 1, goal, 5, 4, 2, None, 0, entries_from(3))
            for role in ("hears", "asks", "leads"):
                self.check(facts, memory_at(facts, 2, role=role, floor=3), ask(facts, goal, 1, 5, 0), (),
                           {"floor": 5} if goal == 1 else {"floor": 5, "counter": 0}, (letter,))

    def test_below_the_promised_term(self):
        facts = facts_with(3)
        for term in (0, 4):
            for goal in THREE:
                for role in ("hears", "asks", "leads"):
                    self.check(facts, memory_at(facts, 2, role=role), ask(facts, goal, 1, term, 0), (), {}, (("bar", 0, 1, goal, term, 5),))
        self.check(facts, memory_at(facts, 2, floor=-1), ask(facts, 2, 1, 3, 0), (), {"floor": 3}, (("bar", 0, 1, 2, 3, 5),))

    def test_how_much_is_told(self):
        facts = facts_with(3, base=4)
        for decided in range(11):
            letter = taken_ask(facts, memory_at(facts, 5), 1, ask(facts, 2, 1, 9, decided))[3][0]
            start = min(decided, 7)
            told = (facts.base.parts(), 4, facts.entries) if start < 4 else (None, start, entries_from(7 - start, start))
            self.assertEqual(letter, ("grant", 0, 1, 2, 9, 4, 5) + told)

    def test_without_an_accepted_term(self):
        facts = Facts.begun(2, THREE, FIRST)
        self.check(facts, Memory(FIRST), ask(facts, 0, 1, 0, 3), ((("promise", 0),),), {"floor": 0}, (("grant", 2, 1, 0, 0, -1, 0, None, 0, ()),))

    def test_rules(self):
        facts = facts_with(3)
        for term in (5, 6):
            check_rules(self, lambda rule: taken_ask(facts, memory_at(facts, 2), 1, ask(facts, 2, 1, term, 1), without=rule))
        for goal in THREE:
            memory = memory_at(facts, 2, role="leads", term=4)
            changes = {} if goal == 1 else {"counter": 0}
            check_rules(self, lambda rule: taken_ask(facts, memory, 1, ask(facts, goal, 1, 4, 1), without=rule), ("promise",))
            # what is promised stays, and the grant tells the lower term
            self.check(facts, memory, ask(facts, goal, 1, 4, 1), (), changes,
                       (("grant", 0, 1, goal, 4, 4, 2, None, 1, entries_from(2, 1)),), without="promise")

    def test_errors(self):
        facts = facts_with(3)
        check_words(self, taken_ask, facts, memory_at(facts, 2), 1, ask(facts, 2, 1, 9, 0))
        wide = Parameter(Facts.begun(0, (0, 1, 2), FIRST), FACTS.is_right, InvalidFacts)
        check_errors(self, taken_ask, [wide, MEMORY, HOUSE, letter_parameter(ask(facts, 2, 1, 9, 0)), WITHOUT])


class BarTest(unittest.TestCase):
    def check(self, facts, memory, letter, changes, letters=()):
        check_turn(self, lambda *args: taken_bar(*args, 1, letter), facts, memory, (), changes, letters)

    def test_of_the_term_that_it_asks(self):
        facts = facts_with(3)
        for promised, term in ((8, 10), (9, 10), (10, 13), (7, 10)):
            memory = memory_at(facts, 2, role="asks", term=4, floor=7)
            changes = {"role": "asks", "term": term, "grants": {}, "reads": (), "counter": 0, "leader": None, "floor": term}
            self.check(facts, memory, ("bar", 0, 2, 1, 4, promised), changes, tuple(("ask", 0, 1, goal, term, 2) for goal in THREE))

    def test_the_own_promised_term_counts_too(self):
        facts = facts_with(3, promised=30)
        turn = taken_bar(facts, memory_at(facts, 2, role="asks", term=4, floor=7), 1, ("bar", 0, 2, 1, 4, 8))
        self.assertEqual((turn[1].term, turn[1].floor), (31, 31))

    def test_of_the_term_that_it_leads(self):
        facts = facts_with(3)
        memory = memory_at(facts, 2, role="leads", term=4)
        self.check(facts, memory, ("bar", 0, 2, 1, 4, 9), {**HEARS_NOBODY, "counter": 0, "floor": 9})
        self.check(facts, memory, ("bar", 0, 1, 1, 4, 9), {**HEARS_NOBODY, "counter": 0, "floor": 9})

    def test_of_another_term_or_in_another_role(self):
        facts = facts_with(3)
        for role, term in (("asks", 5), ("asks", 3), ("leads", 5), ("leads", 3), ("hears", 4), ("over", 4), ("rests", 4)):
            memory = memory_at(facts, 2, role=role, term=term)
            self.check(facts, memory, ("bar", 0, 2, 1, 4, 9), {"floor": 9})
            self.check(facts, memory, ("bar", 0, 2, 1, 4, 5), {})
            self.check(facts, memory, ("bar", 0, 2, 1, 11, 12), {"floor": 12})

    def test_errors(self):
        facts = facts_with(3)
        check_words(self, taken_bar, facts, memory_at(facts, 2), 1, ("bar", 0, 2, 1, 4, 9))
        check_errors(self, taken_bar, [FACTS, MEMORY, HOUSE, letter_parameter(("bar", 0, 2, 1, 4, 9))])


def empty_grant(accepted=-1, decided=0, start=0):
    return accepted, decided, None, start, ()


class GrantTest(unittest.TestCase):
    """A house of THREE or of FIVE that asks the term 9, and has decided 2 of its 3 entries."""

    def check(self, facts, memory, house, letter, records, changes, letters=(), **keywords):
        return check_turn(self, lambda *args, **more: taken_grant(*args, house, letter, **more), facts, memory, records, changes, letters, **keywords)

    def asking(self, facts, decided=2, **fields):
        return memory_at(facts, decided, **{"role": "asks", "term": 9, "floor": 9, "grants": {}, **fields})

    def test_too_few(self):
        facts = facts_with(3, circle=FIVE, promised=9)
        one, two = empty_grant(4, 1), empty_grant(2, 0)
        self.check(facts, self.asking(facts), 2, grant(facts, 2, 2, 9, one), (), {"grants": {2: one}})
        self.check(facts, self.asking(facts, grants={2: one}), 2, grant(facts, 8, 2, 9, two), (), {"grants": {2: one, 8: two}})
        # more than half, but not its own among them
        told = {0: one, 3: one}
        self.check(facts, self.asking(facts, grants=told), 2, grant(facts, 8, 2, 9, two), (), {"grants": {**told, 8: two}})
        told = {0: one, 3: one, 5: one}
        self.check(facts, self.asking(facts, grants=told), 2, grant(facts, 8, 2, 9, two), (), {"grants": {**told, 8: two}})

    def test_just_more_than_half(self):
        for circle, many in (((2,), 1), ((2, 3), 2), ((1, 2, 3), 2), ((0, 1, 2, 3), 3), (FIVE, 3), (tuple(range(6)), 4), (tuple(range(7)), 4)):
            facts = Facts.begun(0, circle, FIRST, 9)
            lot = [2] + [house for house in circle if house != 2]
            memory = Memory(FIRST, {"role": "asks", "term": 9})
            for number, house in enumerate(lot[:many], start=1):
                memory = taken_grant(facts, memory, 2, grant(facts, house, 2, 9, empty_grant()))[1]
                self.assertEqual(memory.role, "leads" if number == many else "asks")
            # its own grant can be the last one
            memory = Memory(FIRST, {"role": "asks", "term": 9})
            for number, house in enumerate(lot[1:] + [2], start=1):
                memory = taken_grant(facts, memory, 2, grant(facts, house, 2, 9, empty_grant()))[1]
                self.assertEqual(memory.role, "leads" if number == len(lot) else "asks")

    def test_the_second_grant_of_a_house(self):
        facts = facts_with(3, circle=FIVE, promised=9)
        memory = self.asking(facts, grants={8: empty_grant(1)})
        self.check(facts, memory, 2, grant(facts, 8, 2, 9, empty_grant(4, 1)), (), {})

    def test_grants_of_other_terms_and_in_other_roles(self):
        facts = facts_with(3, circle=FIVE, promised=9)
        for role, own, term in (("asks", 9, 4), ("asks", 9, 8), ("asks", 9, 14), ("leads", 9, 8), ("leads", 9, 14), ("hears", 9, 9),
                                ("over", 9, 9), ("rests", 9, 9)):
            memory = self.asking(facts, role=role, term=own)
            self.check(facts, memory, 2, grant(facts, 8, 2, term, empty_grant()), (), {"floor": max(9, term)})

    def test_what_counts(self):
        facts = facts_with(3, circle=FIVE, promised=9)
        base = FIRST.run(entries_from(3))
        for rest, counts in ((empty_grant(4, 0, 0), True), (empty_grant(4, 0, 1), True), (empty_grant(4, 0, 2), True),
                             (empty_grant(4, 0, 3), False), (empty_grant(4, 0, 9), False), ((4, 3, base.parts(), 3, ()), True),
                             ((4, 0, FIRST.parts(), 0, entries_from(1)), True)):
            memory = self.asking(facts)
            self.check(facts, memory, 2, grant(facts, 8, 2, 9, rest), (), {"grants": {8: rest}} if counts else {})

    def leading(self, facts, grants, last, house=1, decided=2, **keywords):
        """The turn of who begins to lead with some grants, the one of the last house coming now."""
        memory = self.asking(facts, decided, grants={at: rest for at, rest in grants.items() if at != last})
        return memory, taken_grant(facts, memory, house, grant(facts, last, house, 9, grants[last]), **keywords)

    def check_leading(self, facts, grants, row, *, house=1, decided=2, state=None, records=(), **keywords):
        """Checks what begins with a best row: the told base or None, the start and the entries."""
        base, start, entries = row
        parts = () if base is None else base.parts()
        length = start + len(entries)
        for last in grants:
            memory = self.asking(facts, decided, grants={at: rest for at, rest in grants.items() if at != last})
            behind = facts
            for record in records:
                behind = fold(behind, record[0][1])[0]
            later = lay(behind, 9, base, start, entries)[0]
            at = {house: rest[1] for house, rest in grants.items()}
            changes = {"role": "leads", "leader": house, "counter": 0, "opening": length, "laid": {}, "heard": {}, "round": 0, "reads": (),
                       "grants": grants, "at": at}
            if state is not None:
                changes["state"] = state
            known = memory.decided if state is None else state.length
            letters = (("laid", 0, house, house, 9, length, 0),)
            for goal in sorted(grants):
                if goal != house:
                    told = row_from(later, min(at[goal], length))
                    letters += (("lay", 0, house, goal, 9, length) + told + (known, 0),)
            wished = records + (((("lay", 9, start, len(parts)),) + parts + entries),)
            turn = self.check(facts, memory, house, grant(facts, last, house, 9, grants[last]), wished, changes, letters, **keywords)
            self.assertEqual((turn[2].accepted, turn[2].length), (9, length))

    def test_the_best_row(self):
        facts = facts_with(3, promised=9)
        own = (4, 2, None, 2, entries_from(1, 2))
        more, same = entries_from(3, 2, client=1), entries_from(1, 2, client=1)
        # a greater accepted term, with a shorter row, with one that is as long, and with a longer one
        self.check_leading(facts, {1: own, 2: (5, 2, None, 2, ())}, (None, 2, ()))
        self.check_leading(facts, {1: own, 2: (5, 0, None, 2, same)}, (None, 2, same))
        self.check_leading(facts, {1: own, 2: (5, 1, None, 2, more)}, (None, 2, more))
        # a lesser accepted term, with a longer row
        self.check_leading(facts, {1: own, 2: (3, 0, None, 2, more)}, (None, 2, own[4]))
        # the same accepted term: the longer row, then the least house
        self.check_leading(facts, {1: own, 2: (4, 0, None, 2, more)}, (None, 2, more))
        self.check_leading(facts, {1: own, 0: (4, 0, None, 2, ())}, (None, 2, own[4]))
        self.check_leading(facts, {1: own, 2: (4, 0, None, 2, same)}, (None, 2, own[4]))
        self.check_leading(facts, {1: own, 0: (4, 0, None, 2, same)}, (None, 2, same))
        # a start below what is decided
        self.check_leading(facts, {1: own, 0: (5, 0, None, 0, entries_from(4))}, (None, 0, entries_from(4)))

    def test_more_grants_than_needed(self):
        facts = facts_with(3, circle=FIVE, promised=9)
        grants = {0: (4, 0, None, 2, entries_from(1, 2)), 3: (4, 1, None, 2, entries_from(2, 2)), 5: (2, 0, None, 2, entries_from(9, 2))}
        memory = self.asking(facts, grants={**grants, 8: empty_grant(4, 0)})
        own = empty_grant(4, 2, 2)
        turn = taken_grant(facts, memory, 2, grant(facts, 2, 2, 9, own))
        self.assertEqual((turn[0], turn[1].at), (((("lay", 9, 2, 0),) + entries_from(2, 2),), {0: 0, 2: 2, 3: 1, 5: 0, 8: 0}))
        self.assertEqual([letter[3] for letter in turn[3]], [2, 0, 3, 5, 8])

    def test_a_best_row_shorter_than_what_is_decided(self):
        facts = facts_with(3, promised=9)
        for rest, row in (((8, 0, None, 0, entries_from(1)), (None, 2, ())), ((8, 0, None, 0, ()), (None, 2, ())),
                          ((8, 0, FIRST.parts(), 0, entries_from(1)), (None, 2, ())),
                          ((8, 0, None, 0, entries_from(2)), (None, 0, entries_from(2))),
                          ((8, 0, FIRST.parts(), 0, entries_from(2)), (FIRST, 0, entries_from(2)))):
            self.check_leading(facts, {1: (4, 2, None, 2, entries_from(1, 2)), 2: rest}, row)

    def test_a_base(self):
        facts = facts_with(3, base=1, promised=9)
        own = (4, 2, None, 2, entries_from(1, 2))
        for length in (3, 4, 7):
            # longer than what is decided: it becomes the state
            base = FIRST.run(entries_from(length, client=2))
            self.check_leading(facts, {1: own, 2: (6, length, base.parts(), length, entries_from(2, length))},
                               (base, length, entries_from(2, length)), state=base)
        for length in (0, 1, 2):
            base = FIRST.run(entries_from(length))
            self.check_leading(facts, {1: own, 2: (6, length, base.parts(), length, entries_from(4, length))}, (base, length, entries_from(4, length)))

    def test_a_base_as_long_as_what_is_decided(self):
        # it is not longer: the state and the own base stay, whatever is told
        facts = facts_with(3, base=1, promised=9)
        other = State(2, {"z": 9}, {}, None)
        memory = self.asking(facts, grants={1: (4, 2, None, 2, ())})
        turn = taken_grant(facts, memory, 1, grant(facts, 2, 1, 9, (6, 2, other.parts(), 2, entries_from(2, 2))))
        self.assertEqual((turn[1].state, turn[2].base), (memory.state, other))

    def test_room(self):
        for decided, rows in ((10, 54), (1, 63)):
            facts = facts_with(20, promised=9)
            own = (4, decided, None, decided, entries_from(20 - decided, decided))
            # 64 entries behind the base have room
            self.check_leading(facts, {1: own, 2: (6, 0, None, decided, entries_from(rows, decided))}, (None, decided, entries_from(rows, decided)), decided=decided)
            # one more: all that is decided is folded ahead of the lay
            more = entries_from(rows + 1, decided)
            self.check_leading(facts, {1: own, 2: (6, 0, None, decided, more)}, (None, decided, more), decided=decided, records=((("fold", decided),),))
        facts = facts_with(20, promised=9)
        grants = {1: (4, 0, None, 0, entries_from(20)), 2: (6, 0, None, 0, entries_from(64))}
        self.check_leading(facts, grants, (None, 0, entries_from(64)), decided=0)

    def test_no_room(self):
        # nothing is decided behind the base, so nothing can be folded
        facts = facts_with(20, base=4, promised=9)
        memory = self.asking(facts, 4, grants={1: (4, 4, None, 4, entries_from(20, 4))})
        letter = grant(facts, 2, 1, 9, (6, 4, None, 4, entries_from(64, 4)))
        self.assertEqual(len(taken_grant(facts, memory, 1, letter)[2].entries), 64)
        state = State(4, {}, {}, None)
        facts = Facts(0, THREE, 9, 4, State(3, {}, {}, None), entries_from(20, 3))
        memory = self.asking(facts, 3, grants={1: (4, 3, None, 3, entries_from(20, 3))}).but({"state": state})
        # only one entry is decided: folding it makes room for one more
        self.assertEqual(taken_grant(facts, memory, 1, grant(facts, 2, 1, 9, (6, 3, None, 4, entries_from(64, 4))))[0][0], (("fold", 4),))
        low = self.asking(facts, 3, grants={1: (4, 3, None, 3, entries_from(20, 3))})
        self.assertIsNone(kind_of_error(taken_grant, [facts, low, 1, grant(facts, 2, 1, 9, (6, 3, None, 3, entries_from(64, 3)))]))

    def test_lays_that_cannot_be_done(self):
        base = State(4, {}, {}, None)
        facts = Facts(0, THREE, 9, 4, base, entries_from(2, 4))
        # a memory that has decided less than the base has: its row would be too short
        memory = Memory(FIRST, {"role": "asks", "term": 9, "grants": {1: empty_grant(4)}})
        self.assertEqual(kind_of_error(taken_grant, [facts, memory, 1, grant(facts, 2, 1, 9, (6, 0, None, 0, entries_from(2)))]), (Refused, ("short",)))
        # one that has decided more than the row has
        far = Memory(State(9, {}, {}, None), {"role": "asks", "term": 9, "grants": {1: empty_grant(4)}})
        self.assertEqual(kind_of_error(taken_grant, [facts, far, 1, grant(facts, 2, 1, 9, (6, 0, None, 9, entries_from(2)))]), (Refused, ("gap",)))
        stop = (0, 99, ("circle", (0, 1)))
        here = Memory(base, {"role": "asks", "term": 9, "grants": {1: empty_grant(4)}})
        self.assertEqual(kind_of_error(taken_grant, [facts, here, 1, grant(facts, 2, 1, 9, (6, 0, None, 4, (stop, stop)))]), (InvalidFacts, None))
        # a row that goes too far ahead of the base, with nothing to fold
        long = Memory(State(5, {}, {}, None), {"role": "asks", "term": 9, "grants": {1: empty_grant(4)}})
        short = Facts(0, THREE, 9, 4, State(0, {}, {}, None), entries_from(5))
        folded = taken_grant(short, long, 1, grant(short, 2, 1, 9, (6, 0, None, 5, entries_from(64, 5))))
        self.assertEqual((folded[0][0], len(folded[2].entries)), ((("fold", 5),), 64))

    def test_of_the_term_that_it_leads(self):
        facts = facts_with(3, promised=9)
        memory = memory_at(facts, 2, role="leads", term=9, floor=9, opening=3, laid={1: 3}, at={1: 2}, round=7)
        for decided in (0, 1, 3, 8):
            start = min(decided, 3)
            lay_there = ("lay", 0, 1, 2, 9, 3, None, start, entries_from(3 - start, start), 2, 7)
            self.check(facts, memory, 1, grant(facts, 2, 1, 9, empty_grant(8, decided)), (), {"at": {1: 2, 2: decided}}, (lay_there,))
        # one that has granted before, and one that has laid
        again = memory.but({"at": {1: 2, 2: 1}})
        self.check(facts, again, 1, grant(facts, 2, 1, 9, empty_grant(8, 2)), (), {"at": {1: 2, 2: 2}},
                   (("lay", 0, 1, 2, 9, 3, None, 2, entries_from(1, 2), 2, 7),))
        self.check(facts, memory.but({"laid": {1: 3, 2: 0}}), 1, grant(facts, 2, 1, 9, empty_grant(8, 2)), (), {})
        self.check(facts, memory, 1, grant(facts, 1, 1, 9, empty_grant(8, 2)), (), {})
        # its own grant once more, ahead of what it has laid itself: nothing is laid to the house itself (stage 11)
        for at in ({}, {1: 0}, {1: 2, 2: 1}):
            fields = {"laid": {}, "at": at, "floor": 9}
            self.check(facts, memory.but(fields), 1, grant(facts, 1, 1, 9, empty_grant(8, 2)), (), {})
            self.check(facts, memory.but({**fields, "floor": 5}), 1, grant(facts, 1, 1, 9, empty_grant(8, 3)), (), {"floor": 9})
        # its base goes if it is longer
        based = facts_with(3, base=4, promised=9)
        lay_there = taken_grant(based, memory_at(based, 5, role="leads", term=9, laid={}, at={}), 1, grant(based, 2, 1, 9, empty_grant(8, 3)))[3]
        self.assertEqual(lay_there, (("lay", 0, 1, 2, 9, 1, based.base.parts(), 4, entries_from(3, 4), 5, 3),))

    def test_half(self):
        facts = Facts.begun(0, (1, 2, 5, 8), FIRST, 9)
        memory = Memory(FIRST, {"role": "asks", "term": 9, "grants": {1: empty_grant()}})
        plain, told = check_rules(self, lambda rule: taken_grant(facts, memory, 1, grant(facts, 5, 1, 9, empty_grant()), without=rule), ("half",))
        self.assertEqual((plain[1].role, told["half"][1].role, told["half"][2].accepted), ("asks", "leads", 9))
        # less than half is never enough, and its own grant is needed
        alone = Memory(FIRST, {"role": "asks", "term": 9})
        others = Memory(FIRST, {"role": "asks", "term": 9, "grants": {2: empty_grant()}})
        for told, goal in ((alone, 1), (others, 5)):
            check_rules(self, lambda rule: taken_grant(facts, told, 1, grant(facts, goal, 1, 9, empty_grant()), without=rule))
        odd = Facts.begun(0, FIVE, FIRST, 9)
        self.assertEqual(taken_grant(odd, Memory(FIRST, {"role": "asks", "term": 9, "grants": {2: empty_grant()}}), 2,
                                     grant(odd, 5, 2, 9, empty_grant()), without="half")[1].role, "asks")

    def test_best(self):
        facts = facts_with(3, promised=9)
        own, other = (4, 2, None, 2, entries_from(1, 2)), (6, 1, None, 2, entries_from(4, 2, client=3))
        plain, told = check_rules(self, lambda rule: self.leading(facts, {1: own, 2: other}, 2, without=rule)[1], ("best", "whole"))
        self.assertEqual((plain[2].length, told["best"][2].entries), (6, facts.entries))
        # without "whole" just the first lay is another one
        self.assertEqual(plain[:3], told["whole"][:3])
        self.check_leading(facts, {1: own, 2: other}, (None, 3, ()), without="best")
        # neither a base that was told nor a shorter best row
        base = FIRST.run(entries_from(9))
        self.check_leading(facts, {1: own, 2: (6, 9, base.parts(), 9, ())}, (None, 3, ()), without="best")
        self.check_leading(facts, {1: own, 2: (6, 0, None, 0, ())}, (None, 3, ()), without="best")

    def few(self, plain, letters):
        """Checks that letters are the plain ones, but that a lay brings no more than two entries."""
        self.assertEqual(letters, tuple(letter[:8] + (letter[8][:2],) + letter[9:] if letter[0] == "lay" else letter for letter in plain))

    def test_whole_as_a_house_begins_to_lead(self):
        facts = facts_with(5, circle=FIVE, promised=9)
        own = (4, 2, None, 2, entries_from(3, 2))
        for one in range(6):
            for two in range(6):
                grants = {2: own, 3: empty_grant(0, one), 8: empty_grant(0, two)}
                changing = ("whole",) if min(one, two) < 3 else ()
                plain, told = check_rules(self, lambda rule: self.leading(facts, grants, 8, 2, without=rule)[1][1:], changing)
                self.assertEqual([(letter[3], letter[8]) for letter in plain[2] if letter[0] == "lay"],
                                 [(3, entries_from(5 - one, one)), (8, entries_from(5 - two, two))])
                self.few(plain[2], told["whole"][2])
        # behind a base, too
        based = facts_with(4, base=3, circle=FIVE, promised=9)
        grants = {2: (4, 4, None, 4, entries_from(3, 4)), 3: empty_grant(0, 1), 8: empty_grant(0, 4)}
        plain, told = check_rules(self, lambda rule: self.leading(based, grants, 8, 2, 4, without=rule)[1][1:], ("whole",))
        self.few(plain[2], told["whole"][2])
        self.assertEqual([letter[6:9] for letter in told["whole"][2][1:]],
                         [(based.base.parts(), 3, entries_from(2, 3)), (None, 4, entries_from(2, 4))])

    def test_whole_behind_a_late_grant(self):
        for base in (0, 4):
            facts = facts_with(5, base=base, promised=9)
            for decided in range(base + 7):
                memory = memory_at(facts, base + 2, role="leads", term=9, floor=9, opening=base + 5, laid={1: base + 5}, at={1: base})
                letter = grant(facts, 2, 1, 9, empty_grant(8, decided))
                changing = ("whole",) if decided < base + 3 else ()
                plain, told = check_rules(self, lambda rule: taken_grant(facts, memory, 1, letter, without=rule), changing)
                self.assertEqual((plain[3][0][8], len(plain[3])), (row_from(facts, min(decided, base + 5))[2], 1))
                self.assertEqual(plain[:3], told["whole"][:3])
                self.few(plain[3], told["whole"][3])
                # one that has laid is laid nothing by this, and neither is the house itself
                for other, laid in ((2, {1: base + 5, 2: 0}), (1, {})):
                    known = memory.but({"laid": laid})
                    self.assertEqual(check_rules(self, lambda rule: taken_grant(
                        facts, known, 1, grant(facts, other, 1, 9, empty_grant(8, decided)), without=rule))[0][3], ())

    def test_errors(self):
        facts = facts_with(3)
        letter = grant(facts, 2, 1, 9, empty_grant())
        check_words(self, taken_grant, facts, memory_at(facts, 2), 1, letter)
        check_errors(self, taken_grant, [FACTS, MEMORY, HOUSE, letter_parameter(letter), WITHOUT])


class BestTest(unittest.TestCase):
    def test_the_greatest_rank(self):
        chance = random.Random(13)
        for _ in range(400):
            grants = {}
            for house in chance.sample(range(9), chance.randrange(1, 6)):
                start = chance.randrange(3)
                grants[house] = (chance.randrange(-1, 2), chance.randrange(9), None, start, entries_from(chance.randrange(3)))
            ranks = {house: (rest[0], rest[3] + len(rest[4]), -house) for house, rest in grants.items()}
            self.assertEqual(best_grant(grants), max(grants, key=lambda house: ranks[house]))

    def test_the_start_counts(self):
        base = FIRST.run(entries_from(5)).parts()
        self.assertEqual(best_grant({0: (3, 0, None, 0, entries_from(6)), 2: (3, 5, base, 5, entries_from(2))}), 2)
        self.assertEqual(best_grant({0: (3, 0, None, 0, entries_from(7)), 2: (3, 5, base, 5, entries_from(2))}), 0)
        self.assertEqual(best_grant({7: (-1, 0, None, 0, ())}), 7)

    def test_errors(self):
        right, wrong = GRANTS
        for grants in right:
            self.assertEqual(kind_of_error(best_grant, [grants]), (InvalidOperation, None) if grants == {} else None)
        for grants in wrong:
            self.assertEqual(kind_of_error(best_grant, [grants]), (InvalidOperation, None))
        check_errors(self, best_grant, [Parameter({1: empty_grant()}, lambda value: repr(value) == repr({1: empty_grant()}), InvalidOperation)])


class NotTrueTest(unittest.TestCase):
    def test_the_best_grant_has_the_longest_row(self):
        grants = {0: (2, 0, None, 0, entries_from(9)), 1: (3, 0, None, 0, entries_from(1))}
        self.assertEqual(best_grant(grants), 1)

    def test_just_one_house_leads(self):
        # the house 2 begins to lead a later term, of which the house 1 has not heard
        led = {}
        for house, term in ((1, 1), (2, 2)):
            facts = Facts.begun(0, THREE, FIRST, term)
            memory = Memory(FIRST, {"role": "asks", "term": term, "grants": {house: empty_grant()}})
            led[house] = taken_grant(facts, memory, house, grant(facts, 0, house, term, empty_grant()))[1]
        self.assertEqual([led[house].role for house in led], ["leads", "leads"])


if __name__ == "__main__":
    unittest.main()
