import random
import unittest

from halvesmeet.base.values import is_plain
from halvesmeet.errors import InvalidLetter, InvalidNumber, InvalidOperation, TooMany
from halvesmeet.net import letters as module
from halvesmeet.net.letters import Bag, is_house_letter, is_letter, receiver, sender
from halvesmeet.store.states import State
from support import Parameter, check_errors, is_row_of, kind_of_error, number_from, odd_values

MOST = 10 ** 9
ENTRIES = ((0, 1, ("put", "a", 1)), (3, 7, ("all", (("get", "a"), ("drop", "b")))))
FULL = State(7, {"a": 1, "b": "x"}, {1: (4, ("rows", (("a", 1),)), 7), 2: (9, ("done", (("was", None),)), 3)}, None)
STOPPED = State(7, {}, {1: (4, ("next", (0, 1)), 7)}, (0, 1))
STATE = (("state", 0, None),)

# values of each kind of member, and values that are none, all beside a right rest of the letter
ODD = (None, True, False, "", "0", "a", "ask", (), (0,), (None,), [], [0], {}, 10 ** 60, -10 ** 60, -10 ** 9, State.first())
COUNTS = ((0, 1, MOST), (-1, MOST + 1))
COUNTS_OR_NONE = ((-1, 0, 1, MOST), (-2, MOST + 1))
HOUSES = (tuple(range(9)), (-1, 9, MOST))
CLIENTS = (tuple(range(5)), (-1, 5, MOST))
NUMBERS = ((1, 2, MOST + 1, 10 ** 60 - 1), (0, -1, 10 ** 60))
CIRCLES = (((0,), (8,), (0, 1, 2, 3, 4, 5, 6), (2, 5)), ((1, 0), (0, 0), (9,), (-1,), tuple(range(8)), (True,), [0], 0, 1))
DEEDS = ((("get", "a"), ("circle", (0, 1)), ("put", "a", -5)), (("get", "A"), ("get",), ["get", "a"], ("was", None), 0, 1))
ANSWERS = ((("was", None), ("full",), ("next", (0,))), (("get", "a"), ("was",), ["full"], ("sum", True), 0, 1))
OTHERS = ((None,) + HOUSES[0], HOUSES[1])
ENTRY_ROWS = (((), ENTRIES, (ENTRIES[0],) * 64),
              ((ENTRIES[0],) * 65, list(ENTRIES), ENTRIES[0], ENTRIES + (5,), ((0, 0, ("get", "a")),),
               ((5, 1, ("get", "a")),), ((0, True, ("get", "a")),), ((0, 1, ("get", "A")),), 0, 1))
BASES = ((None,), (STATE, FULL.parts(), STOPPED.parts(), STOPPED.reopened().parts(), FULL.parts()[::-1],
                   FULL.parts()[:2] + FULL.parts(), (("state", 5, None, 1),), (("state", 5),), "state", 0, 1, 5))
FULL_BASES = ((FULL.parts(), STOPPED.reopened().parts()),
              (STATE, STOPPED.parts(), FULL.parts()[::-1], FULL.parts()[1:], FULL.parts() + FULL.parts()[-1:], list(FULL.parts()),
               (("state", 7, (0, 1)),), (("state", 7, True),), (("state", True, None),), 7, 0, 1))
HEAD = [COUNTS, HOUSES, HOUSES]


def kinds_of_row(base, start):
    """The kinds of base and start, told one beside the other."""
    return [((base,), ()), ((start,), ())]


class Form:
    """A right letter, and the kinds of its members behind the word."""

    def __init__(self, letter, kinds, nones=()):
        self.letter = letter
        self.kinds = kinds
        # the places at which None is right
        self.nones = nones


START = ((5,), ())
ZERO = ((0, 1, 5, MOST), (-1, MOST + 1))
SEVEN = ((7,), (-1, 0, 6, 8, MOST))
FORMS = (
    Form(("ask", 0, 1, 2, 4, 0), HEAD + [COUNTS, COUNTS]),
    Form(("grant", 0, 1, 2, 4, 3, 9, None, 5, ENTRIES), HEAD + [COUNTS, COUNTS_OR_NONE, COUNTS, BASES, ZERO, ENTRY_ROWS], (7,)),
    Form(("grant", 0, 1, 2, 4, 3, 9, FULL.parts(), 7, ENTRIES),
         HEAD + [COUNTS, COUNTS_OR_NONE, COUNTS, FULL_BASES, SEVEN, ENTRY_ROWS], (7,)),
    Form(("bar", 0, 1, 2, 4, 5), HEAD + [((0, 1, 4), (5, 6, -1)), ((5, 6, MOST), (4, 3, 0, -1, MOST + 1))]),
    Form(("lay", 0, 1, 2, 4, 3, None, 5, ENTRIES, 9, 0), HEAD + [COUNTS, COUNTS, BASES, ZERO, ENTRY_ROWS, COUNTS, COUNTS], (6,)),
    Form(("lay", 0, 1, 2, 4, 3, FULL.parts(), 7, ENTRIES, 9, 0),
         HEAD + [COUNTS, COUNTS, FULL_BASES, SEVEN, ENTRY_ROWS, COUNTS, COUNTS], (6,)),
    Form(("laid", 0, 1, 2, 4, 3, 9), HEAD + [COUNTS, COUNTS, COUNTS]),
    Form(("carry", 0, 1, 2, (0, 1), FULL.parts(), -1), HEAD + [CIRCLES, (FULL_BASES[0] + (STATE,), FULL_BASES[1][1:]), COUNTS_OR_NONE]),
    Form(("begun", 0, 1, 2), HEAD),
    Form(("deed", 0, 1, 3, ("get", "a")), [CLIENTS, HOUSES, NUMBERS, DEEDS]),
    Form(("answer", 1, 0, 3, ("was", None), 9), [HOUSES, CLIENTS, NUMBERS, ANSWERS, COUNTS]),
    Form(("try", 1, 0, 3, 2, 9, (0, 1)), [HOUSES, CLIENTS, NUMBERS, OTHERS, COUNTS, CIRCLES], (4,)))
ASK, BAR, CALL, REPLY = FORMS[0].letter, FORMS[3].letter, FORMS[9].letter, FORMS[10].letter
CLIENT_WORDS = ("deed", "answer", "try")
LETTERS = Parameter((ASK,), is_row_of(is_letter), InvalidLetter)


def replaced(row, at, value):
    return row[:at] + (value,) + row[at + 1:]


class FormsTest(unittest.TestCase):
    def check(self, value, wished):
        self.assertIs(is_letter(value), wished, value)
        self.assertIs(is_house_letter(value), wished and value[0] not in CLIENT_WORDS, value)
        for function in (sender, receiver):
            self.assertEqual(kind_of_error(function, [value]), None if wished else (InvalidLetter, None))
        if wished:
            self.assertTrue(is_plain(value))

    def test_constants(self):
        self.assertEqual((module.MAX_LETTERS, module.MAX_CARRIED, module.MAX_COUNT), (400, 64, MOST))
        self.assertEqual(module.HOUSE_WORDS, ("ask", "grant", "bar", "lay", "laid", "carry", "begun"))
        self.assertEqual(module.CLIENT_WORDS, CLIENT_WORDS)
        self.assertEqual({form.letter[0] for form in FORMS}, set(module.HOUSE_WORDS + CLIENT_WORDS))

    def test_right_letters(self):
        for form in FORMS:
            self.check(form.letter, True)
            for at, (right, _) in enumerate(form.kinds, start=1):
                for value in right:
                    self.check(replaced(form.letter, at, value), True)

    def test_members_beyond_their_bounds(self):
        for form in FORMS:
            self.assertEqual(len(form.kinds), len(form.letter) - 1)
            for at, (right, wrong) in enumerate(form.kinds, start=1):
                for value in wrong + ODD:
                    # by its text, as True is equal to 1
                    if repr(value) not in map(repr, right) and not (value is None and at in form.nones):
                        self.check(replaced(form.letter, at, value), False)

    def test_a_base_can_be_none(self):
        self.check(("grant", 0, 1, 2, 4, 3, 9, None, 7, ENTRIES), True)
        self.check(("lay", 0, 1, 2, 4, 3, None, 7, ENTRIES, 9, 0), True)
        self.check(("carry", 0, 1, 2, (0, 1), None, -1), False)
        self.check(("try", 1, 0, 3, None, 9, (0, 1)), True)

    def test_a_base_has_the_length_of_the_start(self):
        for base in (FULL, STOPPED.reopened(), State(MOST, {}, {}, None), State.first()):
            for start in (0, 6, 7, 8, MOST - 1, MOST):
                self.check(("grant", 0, 1, 2, 4, 3, 9, base.parts(), start, ()), start == base.length)
                self.check(("lay", 0, 1, 2, 4, 3, base.parts(), start, (), 9, 0), start == base.length)
        for word in ((5, None), (7, (0, 1))):
            self.check(("lay", 0, 1, 2, 4, 3, (("state",) + word,), word[0], (), 9, 0), word == (5, None))

    def test_what_a_bar_tells_as_promised(self):
        for term, promised, wished in ((4, 4, False), (4, 5, True), (4, 3, False), (0, 0, False), (0, 1, True), (0, -1, False),
                                       (MOST - 1, MOST, True), (MOST, MOST, False), (MOST, MOST + 1, False)):
            self.check(("bar", 0, 1, 2, term, promised), wished)

    def test_members_left_out_and_doubled(self):
        for form in FORMS:
            for at in range(len(form.letter)):
                self.check(form.letter[:at] + form.letter[at + 1:], False)
                self.check(form.letter[:at + 1] + form.letter[at:], False)
            for many in range(len(form.letter)):
                self.check(form.letter[:many], False)
            self.check(form.letter + (0,), False)
            self.check(form.letter + ((),), False)
            self.check(list(form.letter), False)

    def test_other_words(self):
        for form in FORMS:
            for word in ("", "Ask", "asks", "act", None, 0, ("ask",), "circle", "put"):
                self.check((word,) + form.letter[1:], False)
            for other in FORMS:
                # only letters with members of the same kinds can exchange their words
                if len(other.letter) != len(form.letter) or other.kinds != form.kinds:
                    value = (other.letter[0],) + form.letter[1:]
                    self.check(value, other.letter[0] == form.letter[0] or (form.letter[0], value[0]) == ("bar", "ask"))

    def test_odd_values(self):
        told = [value for value in odd_values() if is_letter(value)]
        self.assertEqual(told, [("ask", 0, 1, 2, 4, 0), ("begun", 0, 1, 2), ("deed", 0, 1, 1, ("get", "a"))])
        for value in odd_values():
            self.assertIs(is_house_letter(value), value in told[:2] and type(value) is tuple)

    def test_senders_and_receivers(self):
        for form in FORMS:
            letter = form.letter
            if letter[0] == "deed":
                ends = ("client", 0), ("house", 1)
            elif letter[0] in CLIENT_WORDS:
                ends = ("house", 1), ("client", 0)
            else:
                ends = ("house", 1), ("house", 2)
            self.assertEqual((sender(letter), receiver(letter)), ends)
        self.assertEqual([sender(("begun", 0, 5, 5)), receiver(("begun", 0, 5, 5))], [("house", 5)] * 2)
        for function in (sender, receiver):
            check_errors(self, function, [Parameter(ASK, is_letter, InvalidLetter)])


def numbered(many, start=0):
    """So many letters, each unlike the others."""
    return tuple(("ask", 0, 1, 2, start + at, 0) for at in range(many))


class BagTest(unittest.TestCase):
    def test_in_their_sequence(self):
        bag = Bag((ASK, BAR, CALL, ASK))
        self.assertEqual((bag.letters, len(bag), str(bag)), ((ASK, BAR, CALL, ASK), 4, "bag of 4 letters"))
        self.assertEqual(list(bag), [ASK, BAR, CALL, ASK])
        self.assertEqual([letter in bag for letter in (BAR, REPLY, None, [], 5)], [True, False, False, False, False])
        self.assertEqual((Bag().letters, len(Bag()), str(Bag()), list(Bag())), ((), 0, "bag of 0 letters", []))
        self.assertEqual(bag.sent((REPLY, BAR)).letters, (ASK, BAR, CALL, ASK, REPLY, BAR))
        self.assertEqual((bag.sent(()), bag.letters), (bag, (ASK, BAR, CALL, ASK)))

    def test_taken_lost_doubled(self):
        bag = Bag((ASK, BAR, CALL, ASK))
        for index in range(4):
            rest = bag.letters[:index] + bag.letters[index + 1:]
            letter, later = bag.taken(index)
            self.assertEqual((letter, later.letters, bag.lost(index).letters), (bag.letters[index], rest, rest))
            self.assertEqual(bag.doubled(index).letters, bag.letters + (bag.letters[index],))
        for index in (-1, 4, 5, True, False, None, "0", 10 ** 60):
            for method in (bag.taken, bag.lost, bag.doubled):
                self.assertEqual(kind_of_error(method, [index]), (InvalidNumber, index))
        for method in (Bag().taken, Bag().lost, Bag().doubled):
            self.assertEqual(kind_of_error(method, [0]), (InvalidNumber, 0))
        self.assertEqual(bag.letters, (ASK, BAR, CALL, ASK))

    def test_at_most_400(self):
        for many in (399, 400):
            self.assertEqual(len(Bag(numbered(many))), many)
        self.assertEqual(kind_of_error(Bag, [numbered(401)]), (TooMany, 400))
        self.assertEqual(kind_of_error(Bag, [numbered(401) + (5,)]), (InvalidLetter, None))
        full = Bag(numbered(400))
        self.assertEqual(Bag(numbered(399)).sent((BAR,)).letters, numbered(399) + (BAR,))
        self.assertEqual(full.sent((BAR,)).letters, numbered(399, 1) + (BAR,))
        self.assertEqual(full.sent(numbered(1000, 400)).letters, numbered(400, 1000))
        self.assertEqual(Bag((ASK,)).sent(numbered(400)).letters, numbered(400))
        self.assertEqual(full.doubled(7).letters, numbered(399, 1) + (ASK[:4] + (7, 0),))
        self.assertEqual(full.doubled(0).letters, numbered(399, 1) + (ASK[:4] + (0, 0),))
        self.assertEqual(full.doubled(399).letters, numbered(399, 1) + (ASK[:4] + (399, 0),))
        self.assertEqual(Bag(numbered(399)).doubled(0).letters, numbered(399) + numbered(1))
        self.assertEqual(full.letters, numbered(400))

    def test_to_whom_they_go(self):
        told = tuple(form.letter for form in FORMS)
        bag = Bag(told + told)
        for house in range(9):
            self.assertEqual(bag.to_house(house), tuple(at for at, letter in enumerate(told + told) if receiver(letter) == ("house", house)))
        for client in range(5):
            self.assertEqual(bag.to_client(client), tuple(at for at, letter in enumerate(told + told) if receiver(letter) == ("client", client)))
        self.assertEqual((bag.to_house(1), bag.to_client(0)), ((9, 21), (10, 11, 22, 23)))
        self.assertEqual((Bag().to_house(0), Bag().to_client(0)), ((), ()))
        check_errors(self, bag.to_house, [Parameter(0, number_from(0, 8), InvalidNumber)])
        check_errors(self, bag.to_client, [Parameter(0, number_from(0, 4), InvalidNumber)])

    def test_equal_bags(self):
        bags = [Bag(), Bag((ASK,)), Bag((ASK, ASK)), Bag((ASK, BAR)), Bag((BAR, ASK)), Bag((BAR, BAR))]
        for i, one in enumerate(bags):
            for j, other in enumerate(bags):
                self.assertEqual([one == other, one != other], [i == j, i != j])
                self.assertIs(one.has_same(other), sorted(one.letters) == sorted(other.letters))
        for value in odd_values():
            if not isinstance(value, Bag):
                self.assertEqual([bags[1] == value, bags[1] != value], [False, True])
        self.assertFalse(Bag((ASK, ASK, BAR)).has_same(Bag((ASK, BAR, BAR))))
        self.assertTrue(Bag((ASK, BAR, ASK)).has_same(Bag((BAR, ASK, ASK))))
        self.assertFalse(Bag((ASK, BAR)).has_same(Bag((ASK, CALL))))

    def test_errors(self):
        check_errors(self, Bag, [LETTERS])
        check_errors(self, Bag((ASK,)).sent, [LETTERS])
        check_errors(self, Bag((ASK,)).has_same, [Parameter(Bag(), lambda value: isinstance(value, Bag), InvalidOperation)])
        self.assertEqual(kind_of_error(Bag((ASK,)).sent, [numbered(1000) + (None,)]), (InvalidLetter, None))

    def test_drawn_events(self):
        chance = random.Random(8)
        told = [form.letter for form in FORMS]
        for limit in (12, 400):
            bag, plain = Bag(), []
            for number in range(600):
                kind = chance.randrange(7 if limit == 12 else 5)
                at = chance.randrange(len(plain)) if plain else None
                if kind < 3 or at is None:
                    more = [chance.choice(told) for _ in range(chance.randrange(1, limit // 4))]
                    bag, plain = bag.sent(tuple(more)), (plain + more)[-400:]
                elif kind == 3:
                    bag, plain = bag.doubled(at), (plain + [plain[at]])[-400:]
                elif kind == 4:
                    letter, bag = bag.taken(at)
                    self.assertEqual(letter, plain.pop(at))
                else:
                    bag = bag.lost(at)
                    plain.pop(at)
                self.assertEqual(bag.letters, tuple(plain))

    def test_not_true(self):
        # that bags with equally many letters to each house have the same letters
        one, other = Bag((ASK, BAR)), Bag((ASK, ASK))
        self.assertTrue(all(len(one.to_house(house)) == len(other.to_house(house)) for house in range(9)))
        self.assertFalse(one.has_same(other))


if __name__ == "__main__":
    unittest.main()
