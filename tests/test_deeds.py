import random
import unittest

from halvesmeet.errors import InvalidDeed, InvalidState
from halvesmeet.store import deeds as module
from halvesmeet.store.deeds import done, is_answer, is_deed, is_entry, is_read, keys_of, run_deeds
from support import Parameter, check_errors, is_row_of, kind_of_error, nested, odd_values

MOST = 10 ** 12 - 1
KEYS = tuple("abcdefghijklmnopqrstuvwx")
FULL = {key: 0 for key in KEYS}
ALMOST = {key: 0 for key in KEYS[:23]}
DEEDS = (
    ("put", "a", 1), ("put", "abcdefgh", "z 9"), ("put", "a", ""), ("drop", "a"), ("get", "z"), ("add", "a", MOST),
    ("add", "a", -MOST), ("add", "a", 0), ("swap", "a", None, None), ("swap", "a", 1, "1"), ("swap", "a", None, 1),
    ("swap", "a", "x", None), ("list", "a", "b"), ("list", "b", "a"), ("list", "a", "a"), ("circle", (0,)),
    ("circle", (0, 1, 2, 3, 4, 5, 8)), ("all", (("put", "a", 1),)), ("all", (("get", "a"),) * 6),
    ("all", (("put", "a", 1), ("drop", "a"), ("get", "a"), ("add", "a", 1), ("swap", "a", 1, None))))
ANSWERS = (
    ("was", None), ("was", "a"), ("was", MOST), ("is", None), ("is", ""), ("is", -MOST), ("sum", 0), ("sum", MOST),
    ("sum", -MOST), ("swapped",), ("other", None), ("other", 5), ("other", "z"), ("rows", ()), ("rows", (("a", 1),)),
    ("rows", (("a", 1), ("b", "x"), ("zzzzzzzy", 0))), ("rows", tuple((key, 0) for key in KEYS)),
    ("done", (("was", None),)), ("done", (("swapped",), ("is", 1), ("sum", 4), ("was", "x"), ("is", None), ("sum", 1))),
    ("none", 0), ("none", 5), ("next", (0,)), ("next", (2, 3, 4, 5, 6, 7, 8)), ("kind",), ("bound",), ("full",))
WRONG_PARTS = (None, True, False, -1, 6, 10 ** 12, -10 ** 12, 10 ** 60, "", "A", "aaaaaaaaa", "a1", "a" * 13, "zzzzzzzz",
               (), (1, 0), (True,), [], ["a"], {}, {"a": 1}, ("get", "a"), (("list", "a", "b"),), (("circle", (0,)),),
               (("all", (("get", "a"),)),), (("other", 1),), (("kind",),), (("none", 0),), (("rows", ()),),
               (("get", "a"),) * 7, (("is", 1),) * 7, [("get", "a")], (("zzzzzzzz", 1),), (("b", 1), ("a", 1)),
               (("a", 1), ("a", 1)), (("a", None),), (["a", 1],), (("a",),), nested(tuple, 16))


def one_part_changed(value):
    """The tuples that come of a tuple if one member is exchanged, left out, or put to it."""
    for at in range(len(value) + 1):
        yield value[:at] + value[at + 1:]
        for part in WRONG_PARTS:
            yield value[:at] + (part,) + value[at:]
            if at < len(value):
                yield value[:at] + (part,) + value[at + 1:]


def is_right_key(value):
    return type(value) is str and 1 <= len(value) <= 8 and all("a" <= sign <= "z" for sign in value)


def is_right_number(value):
    return type(value) is int and -MOST <= value <= MOST


def is_right_value(value):
    if type(value) is str:
        return len(value) <= 12 and all(sign in "abcdefghijklmnopqrstuvwxyz0123456789 " for sign in value)
    return is_right_number(value)


def is_right_circle(value):
    return (type(value) is tuple and 1 <= len(value) <= 7 and all(type(house) is int for house in value)
            and list(value) == sorted(set(value)) and 0 <= value[0] and value[-1] <= 8)


def is_worth(value):
    return value is None or is_right_value(value)


def is_word_with(value, word, *kinds):
    return (type(value) is tuple and len(value) == len(kinds) + 1 and type(value[0]) is str and value[0] == word
            and all(is_kind(part) for is_kind, part in zip(kinds, value[1:])))


def is_lot(value, is_member):
    return type(value) is tuple and 1 <= len(value) <= 6 and all(is_member(member) for member in value)


def is_right_deed(value):
    """As the document tells deeds."""
    return (is_lot_deed(value) or is_word_with(value, "list", is_right_key, is_right_key)
            or is_word_with(value, "all", lambda lot: is_lot(lot, is_lot_deed))
            or is_word_with(value, "circle", is_right_circle))


def is_lot_deed(value):
    return (is_word_with(value, "put", is_right_key, is_right_value) or is_word_with(value, "drop", is_right_key)
            or is_word_with(value, "get", is_right_key) or is_word_with(value, "add", is_right_key, is_right_number)
            or is_word_with(value, "swap", is_right_key, is_worth, is_worth))


def are_rows(value):
    if type(value) is not tuple or len(value) > 24:
        return False
    if not all(type(row) is tuple and len(row) == 2 and is_right_key(row[0]) and is_right_value(row[1]) for row in value):
        return False
    keys = [row[0] for row in value]
    return keys == sorted(set(keys)) and all(key < "zzzzzzzz" for key in keys)


def is_lot_answer(value):
    return (is_word_with(value, "was", is_worth) or is_word_with(value, "is", is_worth)
            or is_word_with(value, "sum", is_right_number) or is_word_with(value, "swapped"))


def is_right_answer(value):
    """As the document tells answers."""
    return (is_lot_answer(value) or is_word_with(value, "other", is_worth) or is_word_with(value, "rows", are_rows)
            or is_word_with(value, "done", lambda lot: is_lot(lot, is_lot_answer))
            or is_word_with(value, "none", lambda index: type(index) is int and 0 <= index <= 5)
            or is_word_with(value, "next", is_right_circle) or value in (("kind",), ("bound",), ("full",)))


def random_deed(chance, keys="abc", words=module.DEED_WORDS):
    """Any deed with some keys and words."""
    word = chance.choice(words)
    key = chance.choice(keys)
    worth = chance.choice((0, 1, "1", "x", MOST))
    if word == "put":
        return (word, key, worth)
    if word in ("drop", "get"):
        return (word, key)
    if word == "add":
        return (word, key, chance.choice((0, 1, -5, MOST, -MOST)))
    if word == "swap":
        return (word, key, chance.choice((None, worth, 1)), chance.choice((None, worth)))
    if word == "list":
        return (word, key, chance.choice(keys))
    if word == "circle":
        return (word, chance.choice(((0,), (0, 1), (3, 4, 8))))
    return (word, tuple(random_deed(chance, keys, module.DEED_WORDS[:5]) for _ in range(chance.randrange(1, 7))))


class KindsTest(unittest.TestCase):
    def test_constants(self):
        self.assertEqual(module.MAX_SUM, 10 ** 12 - 1)
        self.assertEqual(module.DEED_WORDS, ("put", "drop", "get", "add", "swap", "list", "all", "circle"))

    def test_deeds(self):
        for deed in DEEDS:
            self.assertIs(is_deed(deed), True, deed)
            for changed in one_part_changed(deed):
                self.assertIs(is_deed(changed), is_right_deed(changed), changed)
            self.assertIs(is_deed(list(deed)), False)

    def test_deeds_in_lots(self):
        for deed in DEEDS:
            self.assertIs(is_deed(("all", (("get", "a"), deed))), deed[0] in module.DEED_WORDS[:5], deed)
            for changed in one_part_changed(deed):
                lot = ("all", (changed, ("get", "a")))
                self.assertIs(is_deed(lot), is_right_deed(lot), lot)

    def test_reads(self):
        for deed in DEEDS:
            self.assertIs(is_read(deed), deed[0] in ("get", "list"), deed)

    def test_entries(self):
        for entry in ((0, 1, ("get", "a")), (4, 10 ** 60 - 1, ("circle", (0,))), (2, 7, ("list", "a", "b"))):
            self.assertIs(is_entry(entry), True)
            for changed in one_part_changed(entry):
                right = (len(changed) == 3 and type(changed[0]) is int and 0 <= changed[0] <= 4
                         and type(changed[1]) is int and 1 <= changed[1] < 10 ** 60 and is_right_deed(changed[2]))
                self.assertIs(is_entry(changed), right, changed)
            self.assertIs(is_entry(list(entry)), False)
        for wrong in ((5, 1, ("get", "a")), (0, 0, ("get", "a")), (0, 10 ** 60, ("get", "a")), (True, 1, ("get", "a")),
                      (0, True, ("get", "a")), (0, 1, ("got", "a")), (0, 1, ["get", "a"])):
            self.assertIs(is_entry(wrong), False, wrong)

    def test_answers(self):
        for answer in ANSWERS:
            self.assertIs(is_answer(answer), True, answer)
            for changed in one_part_changed(answer):
                self.assertIs(is_answer(changed), is_right_answer(changed), changed)
            self.assertIs(is_answer(list(answer)), False)
            lot = ("done", (("is", 1), answer))
            self.assertIs(is_answer(lot), answer[0] in ("was", "is", "sum", "swapped"), lot)

    def test_rows_below_a_key(self):
        # the last key of a list is not told: so no answer has the greatest of all keys
        self.assertIs(is_answer(("rows", (("zzzzzzzy", 1),))), True)
        self.assertIs(is_answer(("rows", (("zzzzzzz", 1), ("zzzzzzzz", 1)))), False)
        self.assertIs(is_answer(("rows", tuple((key, 0) for key in KEYS + ("y",)))), False)

    def test_wrong_rows(self):
        for row in (("A", 1), ("", 1), ("a1", 1), (None, 1), (1, 1), ([], 1), ("a", 1, 1), ("a",), (), None, "ab", ["a", 1],
                    ("a", None), ("a", True), ("a", 10 ** 12), ("a", [])):
            self.assertIs(is_answer(("rows", (row,))), False, row)

    def test_wrong_answers_in_lots(self):
        for answer in ANSWERS[:9] + (("swapped",),):
            for changed in one_part_changed(answer):
                lot = ("done", (changed, ("is", 1)))
                self.assertIs(is_answer(lot), is_right_answer(lot), lot)

    def test_each_answer_of_a_deed_is_one(self):
        chance = random.Random(5)
        for _ in range(3000):
            pairs = dict(chance.choice(({}, {"a": 1}, {"b": "1", "c": MOST}, ALMOST, FULL)))
            deed = random_deed(chance, "abcyz")
            answer = done(pairs, deed)[1]
            self.assertIs(is_answer(answer), True, answer)

    def test_no_value_raises_an_error(self):
        deep = nested(tuple, 100000)
        for value in odd_values() + [("put", "a", deep), ("all", deep), ("done", (deep,)), deep, ("rows", deep)]:
            self.assertIs(is_deed(value), is_right_deed(value) if value is not deep else False)
            self.assertIn(is_entry(value), (True, False))
            self.assertIn(is_answer(value), (True, False))

    def test_keys(self):
        rows = ((("put", "b", 1), ("b",)), (("drop", "b"), ("b",)), (("get", "b"), ("b",)), (("add", "b", 1), ("b",)),
                (("swap", "b", 1, 2), ("b",)), (("list", "a", "c"), ()), (("circle", (0,)), ()),
                (("all", (("put", "c", 1), ("get", "a"), ("drop", "c"), ("swap", "b", 1, 2))), ("a", "b", "c")))
        for deed, keys in rows:
            self.assertEqual(keys_of(deed), keys)


class DoneTest(unittest.TestCase):
    def check(self, pairs, deed, later, answer):
        before = dict(pairs)
        told = done(pairs, deed)
        self.assertEqual(told, (later, answer), deed)
        self.assertEqual(list(told[0]), sorted(told[0]))
        self.assertEqual(pairs, before)
        self.assertIsNot(told[0], pairs)

    def test_put_drop_get(self):
        self.check({}, ("put", "a", 1), {"a": 1}, ("was", None))
        self.check({"a": 1}, ("put", "a", "x"), {"a": "x"}, ("was", 1))
        self.check({"b": 2, "a": 1}, ("drop", "a"), {"b": 2}, ("was", 1))
        self.check({"b": 2}, ("drop", "a"), {"b": 2}, ("was", None))
        self.check({"b": 2}, ("get", "b"), {"b": 2}, ("is", 2))
        self.check({"b": 2}, ("get", "a"), {"b": 2}, ("is", None))

    def test_add(self):
        self.check({}, ("add", "a", 5), {"a": 5}, ("sum", 5))
        self.check({}, ("add", "a", 0), {"a": 0}, ("sum", 0))
        self.check({"a": 5}, ("add", "a", -7), {"a": -2}, ("sum", -2))
        self.check({"a": MOST - 1}, ("add", "a", 1), {"a": MOST}, ("sum", MOST))
        self.check({"a": MOST}, ("add", "a", 1), {"a": MOST}, ("bound",))
        self.check({"a": -MOST}, ("add", "a", -1), {"a": -MOST}, ("bound",))
        self.check({"a": 1 - MOST}, ("add", "a", -1), {"a": -MOST}, ("sum", -MOST))
        self.check({"a": "1"}, ("add", "a", 0), {"a": "1"}, ("kind",))
        self.check({"a": ""}, ("add", "a", MOST), {"a": ""}, ("kind",))

    def test_swap(self):
        self.check({"a": 1}, ("swap", "a", 1, 2), {"a": 2}, ("swapped",))
        self.check({"a": 1}, ("swap", "a", 1, None), {}, ("swapped",))
        self.check({"a": 1}, ("swap", "a", "1", 2), {"a": 1}, ("other", 1))
        self.check({"a": 1}, ("swap", "a", None, 2), {"a": 1}, ("other", 1))
        self.check({}, ("swap", "a", None, 2), {"a": 2}, ("swapped",))
        self.check({}, ("swap", "a", None, None), {}, ("swapped",))
        self.check({}, ("swap", "a", 1, 2), {}, ("other", None))
        self.check({"a": 1}, ("swap", "a", 1, 1), {"a": 1}, ("swapped",))

    def test_list_and_circle(self):
        pairs = {"c": 3, "a": 1, "b": "x", "bb": 0}
        self.check(pairs, ("list", "a", "c"), pairs, ("rows", (("a", 1), ("b", "x"), ("bb", 0))))
        self.check(pairs, ("list", "aa", "bb"), pairs, ("rows", (("b", "x"),)))
        self.check(pairs, ("list", "b", "b"), pairs, ("rows", ()))
        self.check(pairs, ("list", "c", "a"), pairs, ("rows", ()))
        self.check(pairs, ("circle", (0, 5)), pairs, ("next", (0, 5)))

    def test_room(self):
        new = {**ALMOST, "y": 5}
        self.check(ALMOST, ("put", "y", 5), new, ("was", None))
        self.check(ALMOST, ("add", "y", 5), new, ("sum", 5))
        self.check(ALMOST, ("swap", "y", None, 5), new, ("swapped",))
        for deed in (("put", "y", 5), ("add", "y", 5), ("add", "y", 0), ("swap", "y", None, 5)):
            self.check(FULL, deed, FULL, ("full",))
        self.check(FULL, ("put", "a", 5), {**FULL, "a": 5}, ("was", 0))
        self.check(FULL, ("add", "a", 5), {**FULL, "a": 5}, ("sum", 5))
        self.check(FULL, ("swap", "a", 0, 5), {**FULL, "a": 5}, ("swapped",))
        # what gives no 25th key a value is not refused
        self.check(FULL, ("swap", "y", None, None), FULL, ("swapped",))
        self.check(FULL, ("swap", "y", 1, 5), FULL, ("other", None))
        self.check(FULL, ("drop", "y"), FULL, ("was", None))

    def test_which_refusal_comes_first(self):
        # a string beside a sum that would be too long: the kind comes first; a free key has neither
        self.check({**FULL, "a": "x"}, ("add", "a", MOST), {**FULL, "a": "x"}, ("kind",))
        self.check({**FULL, "a": MOST}, ("add", "a", MOST), {**FULL, "a": MOST}, ("bound",))

    def test_lots(self):
        six = tuple(("put", key, 1) for key in "abcdef")
        self.check({}, ("all", six), {key: 1 for key in "abcdef"}, ("done", (("was", None),) * 6))
        self.check({}, ("all", six[:1]), {"a": 1}, ("done", (("was", None),)))
        one_after_other = (("add", "a", 1), ("swap", "a", 3, "x"), ("get", "a"), ("drop", "a"), ("get", "a"))
        self.check({"a": 2}, ("all", one_after_other), {},
                   ("done", (("sum", 3), ("swapped",), ("is", "x"), ("was", "x"), ("is", None))))

    def test_lots_that_are_not_done(self):
        breaks = (("add", "s", 1), ("add", "m", 1), ("swap", "a", 9, 1), ("put", "zz", 1))
        pairs = {**{key: 0 for key in KEYS[:22] if key not in "sm"}, "s": "x", "m": MOST, "yy": 1, "yz": 2}
        self.assertEqual(len(pairs), 24)
        for bad in breaks:
            for ahead in range(6):
                lot = (("add", "b", 1),) * ahead + (bad,) + (("drop", "c"),) * (5 - ahead)
                self.check(pairs, ("all", lot), pairs, ("none", ahead))
        self.check(pairs, ("all", (breaks[2], breaks[0])), pairs, ("none", 0))
        # a place that becomes free in the lot can be taken in it
        self.check(FULL, ("all", (("drop", "a"), ("put", "y", 1))),
                   {**{key: 0 for key in KEYS[1:]}, "y": 1}, ("done", (("was", 0), ("was", None))))
        self.check(FULL, ("all", (("put", "y", 1), ("drop", "a"))), FULL, ("none", 0))

    def test_run_deeds(self):
        chance = random.Random(6)
        for _ in range(200):
            pairs = dict(chance.choice(({}, {"a": 1}, ALMOST, FULL)))
            deeds = tuple(random_deed(chance, "axyz") for _ in range(chance.randrange(6)))
            later, answers = pairs, []
            for deed in deeds:
                later, answer = done(later, deed)
                answers.append(answer)
            before = dict(pairs)
            self.assertEqual(run_deeds(pairs, deeds), (later, tuple(answers)))
            self.assertEqual(pairs, before)
        self.assertEqual(list(run_deeds({"b": 1, "a": 2}, ())[0]), ["a", "b"])

    def test_what_is_returned_is_new(self):
        pairs = {"a": 1}
        later = done(pairs, ("get", "a"))[0]
        later["b"] = 2
        self.assertEqual(pairs, {"a": 1})

    def test_exchange(self):
        chance = random.Random(7)
        words = module.DEED_WORDS[:5] + ("all",)
        many = 0
        for _ in range(3000):
            pairs = dict(chance.choice(({}, {"a": 1, "f": "x"}, {key: 0 for key in KEYS[3:23]}, ALMOST, FULL)))
            one, other = random_deed(chance, "abcd", words), random_deed(chance, "efxy", words)
            if len({*pairs, *keys_of(one), *keys_of(other)}) > 24:
                continue
            many += 1
            first, answers = run_deeds(pairs, (one, other))
            second, turned = run_deeds(pairs, (other, one))
            self.assertEqual((first, answers), (second, turned[::-1]))
        self.assertGreater(many, 500)

    def test_not_true(self):
        # that an add of 0 changes nothing
        self.assertEqual(done({}, ("add", "a", 0))[0], {"a": 0})
        # that deeds without a common key can be exchanged
        one, other = ("put", "y", 1), ("put", "z", 1)
        self.assertNotEqual(run_deeds(ALMOST, (one, other))[0], run_deeds(ALMOST, (other, one))[0])


class ErrorsTest(unittest.TestCase):
    def test_errors(self):
        pairs = Parameter({"a": 1}, lambda value: type(value) is dict and all(map(is_right_key, value))
                          and all(map(is_right_value, value.values())), InvalidState)
        deed = Parameter(("get", "a"), is_right_deed, InvalidDeed)
        check_errors(self, is_read, [deed])
        check_errors(self, keys_of, [deed])
        check_errors(self, done, [pairs, deed])
        check_errors(self, run_deeds, [pairs, Parameter((("get", "a"),), is_row_of(is_right_deed), InvalidDeed)])

    def test_wrong_pairs(self):
        wrong = ({**FULL, "y": 1}, {"a": None}, {"a": True}, {"aaaaaaaaa": 1}, {"": 1}, {"a": 10 ** 12}, {"a": "x" * 13},
                 {1: 1}, {("a",): 1}, {"a": ()}, {"a": [1]}, (("a", 1),), [("a", 1)], None)
        for pairs in wrong:
            self.assertEqual(kind_of_error(done, [pairs, ("get", "a")]), (InvalidState, None))
            self.assertEqual(kind_of_error(done, [pairs, ("got", "a")]), (InvalidState, None))
            self.assertEqual(kind_of_error(run_deeds, [pairs, ()]), (InvalidState, None))
        for deeds in ([], [("get", "a")], ("get", "a"), (("get", "a"), ["get", "a"]), None, {}):
            self.assertEqual(kind_of_error(run_deeds, [{}, deeds]), (InvalidDeed, None))


if __name__ == "__main__":
    unittest.main()
