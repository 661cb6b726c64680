import itertools
import random
import unittest

from halvesmeet.errors import InvalidCircle, InvalidNumber, InvalidOperation
from halvesmeet.house.terms import (
    chosen_length, common_house, each_own_term, holders, is_more_than_half, least_halves, others, own_term, owner, unmet)
from support import THREE, Parameter, check_errors, kind_of_error, number_from, parts_of_all
from test_deeds import is_right_circle

FOUR = (1, 2, 5, 8)
CIRCLES = ((3,), (0, 8), THREE, FOUR, (0, 2, 3, 4, 7), (1, 2, 3, 4, 5, 6), (0, 1, 2, 4, 6, 7, 8))
MOST = 10 ** 60 - 1
CIRCLE = Parameter(FOUR, is_right_circle, InvalidCircle)
FLOOR = Parameter(-1, number_from(-1), InvalidNumber)


def is_lot_of(circle):
    """Which values are lots of a circle."""
    return lambda value: type(value) is tuple and any(repr(value) == repr(lot) for lot in lots_of(circle))


def lots_of(circle):
    """All lots of a circle."""
    return [tuple(circle[at] for at in part) for part in parts_of_all(circle)]


def is_laid_of(circle):
    """Which values are dicts from houses of a circle to integers from 0 on."""
    return lambda value: type(value) is dict and all(
        type(house) is int and house in circle and number_from(0)(length) for house, length in value.items())


LOT = Parameter((1, 5), is_lot_of(FOUR), InvalidOperation)
LAID = Parameter({1: 4}, is_laid_of(FOUR), InvalidOperation)


class TermsTest(unittest.TestCase):
    def test_each_term_has_one_owner(self):
        for circle in CIRCLES:
            for term in list(range(30)) + [10 ** 9, MOST - 1, MOST]:
                house = owner(circle, term)
                self.assertEqual(term % len(circle), circle.index(house))
            for first in (0, 5, 17, 10 ** 30):
                self.assertEqual(sorted(owner(circle, first + at) for at in range(len(circle))), list(circle))

    def test_own_terms(self):
        for circle in CIRCLES:
            for house in circle:
                for floor in list(range(-1, 20)) + [10 ** 30 + 4, MOST]:
                    term = own_term(circle, house, floor)
                    wanted = [later for later in range(floor + 1, floor + 1 + len(circle)) if circle[later % len(circle)] == house]
                    self.assertEqual([term], wanted)
                    self.assertEqual(each_own_term(circle, house, floor, 3), (term, term + len(circle), term + 2 * len(circle)))
        self.assertEqual([own_term(FOUR, 5, 2), own_term(FOUR, 5, 1), own_term((3,), 3, -1)], [6, 2, 0])

    def test_so_many(self):
        self.assertEqual(each_own_term(THREE, 1, -1, 0), ())
        self.assertEqual(each_own_term(THREE, 1, -1, 1000), tuple(range(1, 3000, 3)))
        self.assertEqual(kind_of_error(each_own_term, [THREE, 1, -1, 1001]), (InvalidNumber, 1001))

    def test_houses_out_of_the_circle(self):
        for function, rest in ((own_term, []), (each_own_term, [4])):
            for house in (0, 3, 4, 6, 7):
                self.assertEqual(kind_of_error(function, [FOUR, house, -1] + rest), (InvalidOperation, None))
                # it comes behind the errors of all arguments
                self.assertEqual(kind_of_error(function, [FOUR, house, -2] + rest), (InvalidNumber, -2))
            self.assertEqual(kind_of_error(function, [FOUR, 9, -2] + rest), (InvalidNumber, 9))
        self.assertEqual(kind_of_error(each_own_term, [FOUR, 0, -1, 1001]), (InvalidNumber, 1001))

    def test_errors(self):
        house = Parameter(5, number_from(0, 8), InvalidNumber)
        check_errors(self, owner, [CIRCLE, Parameter(4, number_from(0), InvalidNumber)])
        check_errors(self, own_term, [CIRCLE, house, FLOOR])
        check_errors(self, each_own_term, [CIRCLE, house, FLOOR, Parameter(3, number_from(0, 1000), InvalidNumber)])


class LotsTest(unittest.TestCase):
    def test_more_than_half(self):
        for circle in CIRCLES:
            for lot in lots_of(circle):
                rest = others(circle, lot)
                self.assertEqual(sorted(lot + rest), list(circle))
                self.assertEqual(rest, tuple(sorted(rest)))
                self.assertIs(is_more_than_half(circle, lot), 2 * len(lot) > len(circle))
                self.assertFalse(is_more_than_half(circle, lot) and is_more_than_half(circle, rest))
                if len(circle) % 2 == 1:
                    self.assertTrue(is_more_than_half(circle, lot) or is_more_than_half(circle, rest))

    def test_halves_meet(self):
        for circle in CIRCLES:
            lots = lots_of(circle)
            for one in lots:
                for other in lots:
                    common = [house for house in circle if house in one and house in other]
                    self.assertEqual(common_house(circle, one, other), min(common) if common else None)
                    if is_more_than_half(circle, one) and is_more_than_half(circle, other):
                        self.assertNotEqual(common, [])

    def test_least_halves(self):
        for circle in CIRCLES:
            found = least_halves(circle)
            self.assertEqual(found, tuple(itertools.combinations(circle, len(circle) // 2 + 1)))
            self.assertEqual(list(found), sorted(found))
            self.assertIsNone(unmet(circle, found))

    def test_unmet(self):
        self.assertEqual([unmet(FOUR, ()), unmet(FOUR, ((),)), unmet(FOUR, ((1,),)), unmet(FOUR, ((1,), ()))], [None, (0, 0), None, (0, 1)])
        self.assertEqual(unmet(FOUR, ((1, 2), (2, 5), (5, 8), (1, 5))), (0, 2))
        self.assertEqual(unmet(FOUR, ((1, 2, 5), (8,), ())), (0, 1))
        self.assertEqual(unmet(FOUR, ((1, 2, 5), (5, 8), (), (1, 2))), (0, 2))
        self.assertEqual(unmet(FOUR, ((5,), (1, 5), (1, 2), (5, 8), (1, 2))), (0, 2))
        many = ((1, 2, 5), (2, 5, 8)) * 100
        self.assertIsNone(unmet(FOUR, many))
        self.assertEqual(unmet(FOUR, many[:199] + ((),)), (0, 199))
        self.assertEqual(kind_of_error(unmet, [FOUR, many + ((1,),)]), (InvalidOperation, None))
        self.assertEqual(kind_of_error(unmet, [FOUR, list(many)]), (InvalidOperation, None))

    def test_unmet_against_all_pairs(self):
        chance = random.Random(9)
        for circle in CIRCLES:
            lots = lots_of(circle)
            for _ in range(60):
                told = tuple(chance.choice(lots) for _ in range(chance.randrange(1, 6)))
                apart = [(i, j) for i in range(len(told)) for j in range(i, len(told)) if not set(told[i]) & set(told[j])]
                self.assertEqual(unmet(circle, told), min(apart) if apart else None)

    def test_errors(self):
        check_errors(self, is_more_than_half, [CIRCLE, LOT])
        check_errors(self, others, [CIRCLE, LOT])
        check_errors(self, common_house, [CIRCLE, LOT, LOT])
        check_errors(self, least_halves, [CIRCLE])
        lots = lambda value: type(value) is tuple and all(LOT.is_right(lot) for lot in value)
        check_errors(self, unmet, [CIRCLE, Parameter(((1, 5), ()), lots, InvalidOperation)])
        for lot in ((0,), (5, 1), (1, 1), [1, 5], (True,), (1, 9), (1, None), 5):
            self.assertEqual(kind_of_error(is_more_than_half, [FOUR, lot]), (InvalidOperation, None))
            self.assertEqual(kind_of_error(unmet, [FOUR, ((1,), lot)]), (InvalidOperation, None))


class LengthsTest(unittest.TestCase):
    def check(self, circle, laid):
        told = [length for length in range(8) if 2 * len([at for at in circle if laid.get(at, 0) >= length]) > len(circle)]
        self.assertEqual(chosen_length(circle, laid), max(told), laid)
        for length in range(8):
            lot = holders(circle, laid, length)
            self.assertEqual(lot, tuple(at for at in circle if laid.get(at, 0) >= length))
            self.assertIs(is_more_than_half(circle, lot), length <= max(told))

    def test_all_small_dicts(self):
        for circle in CIRCLES[:4]:
            for lengths in itertools.product((None, 0, 1, 2, 6), repeat=len(circle)):
                self.check(circle, {at: length for at, length in zip(circle, lengths) if length is not None})

    def test_drawn_dicts(self):
        chance = random.Random(10)
        for circle in CIRCLES[4:]:
            for _ in range(120):
                laid = {at: chance.randrange(8) for at in chance.sample(circle, chance.randrange(len(circle) + 1))}
                self.check(circle, laid)

    def test_each_lot_of_more_than_half_has_it(self):
        chance = random.Random(11)
        for circle in CIRCLES:
            laid = {at: chance.randrange(9) for at in circle}
            length = chosen_length(circle, laid)
            for lot in lots_of(circle):
                if is_more_than_half(circle, lot):
                    self.assertTrue(set(lot) & set(holders(circle, laid, length)))

    def test_lengths_that_grow(self):
        chance = random.Random(12)
        for circle in CIRCLES:
            laid, last = {}, 0
            for _ in range(80):
                house = chance.choice(circle)
                grown = laid.get(house, 0) + chance.randrange(1, 4)
                laid = {**laid, house: grown}
                length = chosen_length(circle, laid)
                self.assertTrue(last <= length <= max(last, grown))
                last = length

    def test_great_lengths(self):
        self.assertEqual(chosen_length(THREE, {0: MOST, 2: MOST - 1}), MOST - 1)
        self.assertEqual([holders(THREE, {0: MOST, 2: MOST - 1}, MOST), holders(THREE, {}, 0), holders(THREE, {}, 1)], [(0,), THREE, ()])

    def test_errors(self):
        check_errors(self, chosen_length, [CIRCLE, LAID])
        check_errors(self, holders, [CIRCLE, LAID, Parameter(4, number_from(0), InvalidNumber)])
        for laid in ({0: 1}, {1: -1}, {1: True}, {True: 1}, {1: None}, {1: 10 ** 60}, {None: 1}, {(1,): 1}, ((1, 1),)):
            self.assertEqual(kind_of_error(chosen_length, [FOUR, laid]), (InvalidOperation, None))

    def test_the_dict_stays(self):
        laid = {8: 9, 1: 4}
        self.assertEqual((chosen_length(FOUR, laid), holders(FOUR, laid, 9), list(laid.items())), (0, (8,), [(8, 9), (1, 4)]))


class NotTrueTest(unittest.TestCase):
    def test_two_lots_of_at_least_half_meet(self):
        self.assertEqual([common_house(FOUR, (1, 2), (5, 8)), others(FOUR, (1, 2))], [None, (5, 8)])

    def test_the_chosen_length_is_that_of_a_leader(self):
        # the one that laid the most, as a leader does, has more
        self.assertEqual(chosen_length(THREE, {0: 9, 1: 4}), 4)

    def test_three_lots_have_a_house_in_common(self):
        self.assertEqual(set.intersection(*[set(lot) for lot in least_halves(THREE)]), set())


if __name__ == "__main__":
    unittest.main()
