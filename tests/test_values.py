import itertools
import random
import unittest

from halvesmeet.base import values as module
from halvesmeet.base.values import (
    is_circle, is_client, is_house, is_key, is_less, is_plain, is_value, ordered, read_plain, write_plain)
from halvesmeet.errors import InvalidOperation, ParseError
from support import Parameter, check_errors, kind_of_error, nested, odd_values

# one value after the other, each less than the next one
ASCENDING = (
    None, -10 ** 60 + 1, -10, -9, -1, 0, 1, 9, 10, 10 ** 60 - 1, "", " ", "0", "10", "9", "a", "a ", "a0", "aa", "b",
    "z" * 3000, (), (None,), (None, None), (None, 0), (-1,), (0,), (0, None), (1, 1), (1, "a"), (1, ()), (1, (2,)), (2,),
    ("",), ("a",), ("a", 1), ("b",), ((),), ((), ()), ((None,),), ((1,), 1), ((1,), "a"), ((1, 1),), ((2,),))
SIGNS = "abcdefghijklmnopqrstuvwxyz0123456789 "


def random_plain(chance, depth):
    """Any plain value."""
    kind = chance.randrange(4 if depth > 0 else 3)
    if kind == 0:
        return None
    if kind == 1:
        return chance.choice((-1, 1)) * chance.randrange(10 ** chance.choice((1, 2, 60)))
    if kind == 2:
        return "".join(chance.choice(SIGNS) for _ in range(chance.randrange(4)))
    return tuple(random_plain(chance, depth - 1) for _ in range(chance.randrange(4)))


class KindsTest(unittest.TestCase):
    def test_constants(self):
        self.assertEqual([module.MAX_HOUSES, module.MAX_CIRCLE, module.MAX_CLIENTS, module.MAX_KEYS], [9, 7, 5, 24])
        self.assertEqual([module.MAX_SIGNS, module.MAX_LOT, module.MAX_NEST, module.MAX_STRING], [12, 6, 12, 3000])

    def judge(self, function, right, wrong):
        for value in right:
            self.assertIs(function(value), True, value)
        for value in wrong:
            self.assertIs(function(value), False, value)

    def test_houses_and_clients(self):
        self.judge(is_house, range(9), (-1, 9, True, False, None, "1", (1,), [1], 10 ** 60))
        self.judge(is_client, range(5), (-1, 5, True, False, None, "1", (1,), [1], 10 ** 60))

    def test_circles(self):
        right = ((0,), (8,), (0, 8), (0, 1, 2, 3, 4, 5, 6), (2, 3, 4, 5, 6, 7, 8))
        wrong = ((), (0, 1, 2, 3, 4, 5, 6, 7), (1, 0), (1, 1), (0, 9), (-1, 0), (0, True), (False, 1), (False,), [0, 1],
                 None, 0, "01", ((0,), (1,)), {0: 1}, (0, None), (0, "1"))
        self.judge(is_circle, right, wrong)

    def test_keys(self):
        self.judge(is_key, ("a", "z", "abcdefgh", "zzzzzzzz"),
                   ("", "abcdefghi", "A", "a1", "a b", " ", "a\n", "\n", None, 1, ("a",), ["a"], "\u00e4", "a_"))

    def test_values(self):
        right = ("", " ", "a", "0", "a 1", "z" * 12, "9" * 12, 0, -1, 10 ** 12 - 1, 1 - 10 ** 12)
        wrong = ("a" * 13, "A", "a-b", "\n", "a\n", None, True, False, 10 ** 12, -10 ** 12, ("a",), ["a"], {})
        self.judge(is_value, right, wrong)

    def test_plain(self):
        self.judge(is_plain, ASCENDING, (True, False, [], {}, (True,), ((False, 1),), ([],), "A", "'", "a\n", ("A",)))
        self.judge(is_plain, (10 ** 60 - 1, 1 - 10 ** 60, (10 ** 60 - 1,)), (10 ** 60, -10 ** 60, ((10 ** 60,),)))
        self.judge(is_plain, ("a" * 3000, ("a" * 3000,)), ("a" * 3001, ("a" * 3001,)))

    def test_nesting(self):
        self.judge(is_plain, [nested(tuple, depth) for depth in range(1, 13)], [nested(tuple, 13)])
        twelve = (1, nested(tuple, 11), "a", (), nested(tuple, 11))
        self.judge(is_plain, [twelve], [(twelve,), (1, nested(tuple, 12))])

    def test_values_too_deep_for_recursion(self):
        deep = nested(tuple, 200000)
        self.assertIs(is_plain(deep), False)
        self.assertIs(is_plain((1, "a", deep)), False)
        self.assertIs(is_plain(nested(list, 200000)), False)
        for function in (is_house, is_client, is_circle, is_key, is_value):
            self.assertIs(function(deep), False)

    def test_no_value_raises_an_error(self):
        for function in (is_house, is_client, is_circle, is_key, is_value, is_plain):
            for value in odd_values():
                self.assertIn(function(value), (True, False))


class OrderTest(unittest.TestCase):
    def test_less(self):
        for i, one in enumerate(ASCENDING):
            for j, other in enumerate(ASCENDING):
                self.assertIs(is_less(one, other), i < j, (one, other))

    def test_just_one_of_two_is_less_and_less_is_handed_on(self):
        chance = random.Random(1)
        found = [random_plain(chance, 3) for _ in range(60)]
        for one, other in itertools.product(found, found):
            self.assertEqual(is_less(one, other) + is_less(other, one) + (one == other), 1)
        for one, other, third in itertools.product(found[:30], repeat=3):
            if is_less(one, other) and is_less(other, third):
                self.assertTrue(is_less(one, third))

    def test_ordered(self):
        chance = random.Random(2)
        self.assertEqual(ordered(()), ())
        for _ in range(30):
            mixed = list(ASCENDING) + chance.choices(ASCENDING, k=20)
            chance.shuffle(mixed)
            self.assertEqual(ordered(tuple(mixed)), ASCENDING)

    def test_errors(self):
        check_errors(self, is_less, [Parameter((1,), is_plain, InvalidOperation), Parameter("a", is_plain, InvalidOperation)])
        check_errors(self, ordered, [Parameter((1,), lambda value: is_plain(value) and type(value) is tuple,
                                               InvalidOperation)])
        check_errors(self, write_plain, [Parameter((1,), is_plain, InvalidOperation)])
        for wrong in ((1, True), nested(tuple, 13), ([1],), [1, 2], 10 ** 60, "A"):
            self.assertEqual(kind_of_error(ordered, [wrong]), (InvalidOperation, None))

    def test_not_true(self):
        # that plain values ascend as their texts do
        self.assertTrue(is_less(9, 10) and write_plain(10) < write_plain(9))
        # that a tuple is greater than each of its members
        self.assertTrue(is_less((1, (2,)), (2,)))
        # that a longer tuple is greater
        self.assertTrue(is_less((1, 1), (2,)))
        # that each string with as many brackets of both kinds and nothing odd is a text
        self.assertEqual(kind_of_error(read_plain, ["(1)(2)"]), (ParseError, 3))


class TextsTest(unittest.TestCase):
    def test_texts(self):
        rows = ((None, "."), (0, "0"), (-7, "-7"), (10, "10"), ("", "''"), (" a0", "' a0'"), ((), "()"), ((1,), "(1)"),
                (("put", "a", (1, -20, None)), "('put','a',(1,-20,.))"), ((((),), ""), "((()),'')"))
        for value, text in rows:
            self.assertEqual(write_plain(value), text)
            self.assertEqual(read_plain(text), value)

    def test_value_and_text_lead_to_one_another(self):
        chance = random.Random(3)
        edges = ["a" * 3000, 10 ** 60 - 1, 1 - 10 ** 60, nested(tuple, 12), ("a" * 3000, 10 ** 60 - 1)]
        texts = {}
        for value in list(ASCENDING) + edges + [random_plain(chance, 4) for _ in range(500)]:
            text = write_plain(value)
            self.assertEqual(read_plain(text), value)
            self.assertEqual(texts.setdefault(text, value), value)

    def test_no_text_begins_with_another_one(self):
        texts = [write_plain(value) for value in ASCENDING]
        for one, other in itertools.permutations(texts, 2):
            if other.startswith(one):
                self.assertTrue(one.lstrip("-").isdigit() and other.lstrip("-").isdigit())

    def test_wrong_texts(self):
        rows = (("", 0), (" ", 0), ("a", 0), ("+1", 0), (")", 0), (",", 0), ("'", 1), ("'a", 2), ("'A'", 1), ("'a\n'", 2),
                ("-", 1), ("-0", 1), ("-01", 1), ("--1", 1), ("-a", 1), ("00", 1), ("01", 1), ("1 ", 1), ("1.", 1), (".1", 1),
                ("..", 1), ("''a", 2), ("(", 1), ("((", 2), ("(1", 2), ("(1,", 3), ("(1,)", 3), ("(,1)", 1), ("(1,,2)", 3),
                ("(1 ,2)", 2), ("(1, 2)", 3), ("(1)(2)", 3), ("()1", 2), ("())", 2), ("(1,02)", 4), ("(1,2", 4), ("(-0)", 2),
                ("('a)", 3), ("('a',-)", 6), ("(1.)", 2), ("([])", 1), ("None", 0), ("\n", 0), ("1\n", 1))
        for text, spot in rows:
            self.assertEqual(kind_of_error(read_plain, [text]), (ParseError, spot), text)

    def test_edges(self):
        self.assertEqual(read_plain("9" * 60), 10 ** 60 - 1)
        rows = (("9" * 61, 60), ("-" + "9" * 61, 61), ("(" + "1" * 61 + ")", 61), ("'" + "a" * 3001 + "'", 3001),
                ("'" + "a" * 3000, 3001), ("'" + "a" * 3000 + "A", 3001), ("(" * 13, 12), ("(" * 12, 12),
                ("(" * 12 + ")" * 11, 23), ("(" * 12 + ")" * 13, 24), ("(" * 12 + ")),((", 17), ("(" * 12 + ")),(((", 17),
                ("(1,((((((((((((1", 14))
        for text, spot in rows:
            self.assertEqual(kind_of_error(read_plain, [text]), (ParseError, spot), text)
        self.assertEqual(read_plain("'" + "a" * 3000 + "'"), "a" * 3000)
        self.assertEqual(read_plain("(" * 12 + ")" * 12), nested(tuple, 12))
        # brackets that were closed do not count
        self.assertEqual(len(read_plain("(()" + ",()" * 20 + ")")), 21)

    def test_no_text(self):
        for value in odd_values():
            if not isinstance(value, str):
                self.assertEqual(kind_of_error(read_plain, [value]), (ParseError, None))

    def test_told_index_of_broken_texts(self):
        chance = random.Random(4)
        for _ in range(300):
            text = write_plain(random_plain(chance, 3))
            at = chance.randrange(len(text) + 1)
            sign = chance.choice("0123456789-.'(), aA")
            for broken in (text[:at] + sign + text[at + 1:], text[:at] + text[at + 1:], text[:at] + sign + text[at:]):
                self.check_told_index(broken)

    def check_told_index(self, text):
        told = kind_of_error(read_plain, [text])
        if told is None:
            self.assertEqual(write_plain(read_plain(text)), text)
            return
        kind, spot = told
        self.assertIs(kind, ParseError)
        # all ahead of the spot begins some text, and nothing of a text stands there
        self.assertTrue(self.can_go_on(text[:spot]), text)
        self.assertTrue(spot == len(text) or not self.can_go_on(text[:spot + 1]), text)

    def can_go_on(self, start):
        """Whether a text begins so; found without reading_plain's way: by ending what is open."""
        if start.count("'") % 2 == 1:
            start += "'"
        for more in ("", "1", "1)", ")"):
            closed = start + more
            open_ones = closed.count("(") - closed.count(")")
            if open_ones >= 0 and kind_of_error(read_plain, [closed + ")" * open_ones]) is None:
                return True
        return False


if __name__ == "__main__":
    unittest.main()
