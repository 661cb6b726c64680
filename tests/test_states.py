import random
import unittest

from halvesmeet.errors import InvalidDeed, InvalidNumber, InvalidOperation, InvalidState
from halvesmeet.store.deeds import done, is_entry
from halvesmeet.store.states import State, firsts, is_parts, state_of_parts
from support import Parameter, check_errors, is_row_of, kind_of_error, nested, number_from, odd_values
from test_deeds import random_deed

WORDS = ("put", "drop", "get", "add", "swap", "list", "all")
STOP = ("circle", (0, 1))
MOST = 10 ** 9
WAS = ("was", None)
NUMBERS = Parameter(1, number_from(0), InvalidNumber)
CLIENTS = Parameter(1, number_from(0, 4), InvalidNumber)
ENTRIES = Parameter(((0, 1, ("get", "a")),), is_row_of(is_entry), InvalidDeed)


def random_entries(chance, many, clients=5, numbers=4):
    """Any entries, firsts and others."""
    return tuple((chance.randrange(clients), chance.randrange(1, numbers + 1), random_deed(chance, "abxyz", WORDS))
                 for _ in range(many))


def reference(entries):
    """The parts of the state behind a row, and the answers of its entries, as the document tells them."""
    pairs, sessions, circle, answers = {}, {}, None, []
    for index, (client, number, deed) in enumerate(entries):
        ahead = [other for who, other, _ in entries[:index] if who == client]
        if all(other < number for other in ahead):
            pairs, answer = done(pairs, deed)
            sessions[client] = (number, answer, index + 1)
            circle = deed[1] if deed[0] == "circle" else circle
        answers.append(sessions[client][1] if sessions[client][0] == number else None)
    return (len(entries), pairs, sessions, circle), answers


def parts_of(state):
    return state.length, state.pairs, state.sessions, state.next


class EntriesTest(unittest.TestCase):
    def test_first(self):
        self.assertEqual(parts_of(State.first()), (0, {}, {}, None))
        self.assertEqual(State.first().parts(), (("state", 0, None),))

    def test_firsts_copies_and_late_ones(self):
        put, add = (0, 2, ("put", "a", 1)), (0, 5, ("add", "a", 2))
        one, answer = State.first().done(put)
        self.assertEqual((answer, parts_of(one)), (WAS, (1, {"a": 1}, {0: (2, WAS, 1)}, None)))
        copy, answer = one.done((0, 2, ("drop", "a")))
        self.assertEqual((answer, parts_of(copy)), (WAS, (2, {"a": 1}, {0: (2, WAS, 1)}, None)))
        late, answer = copy.done((0, 1, ("drop", "a")))
        self.assertEqual((answer, parts_of(late)), (None, (3, {"a": 1}, {0: (2, WAS, 1)}, None)))
        two, answer = late.done(add)
        self.assertEqual((answer, parts_of(two)), (("sum", 3), (4, {"a": 3}, {0: (5, ("sum", 3), 4)}, None)))
        self.assertEqual(two.done(put)[1], None)
        self.assertEqual(parts_of(one), (1, {"a": 1}, {0: (2, WAS, 1)}, None))

    def test_refused_deeds_are_done(self):
        state = State.first().run(((0, 1, ("put", "a", "x")),))
        refused, answer = state.done((0, 2, ("add", "a", 1)))
        self.assertEqual((answer, parts_of(refused)), (("kind",), (2, {"a": "x"}, {0: (2, ("kind",), 2)}, None)))
        self.assertEqual(refused.done((0, 2, ("put", "a", 1)))[1], ("kind",))
        full = State(3, {chr(97 + at): 0 for at in range(24)}, {}, None)
        self.assertEqual(full.done((1, 1, ("put", "zz", 1)))[0].sessions, {1: (1, ("full",), 4)})

    def test_stops(self):
        state = State.first().run(((1, 1, ("put", "a", 1)), (0, 3, STOP)))
        self.assertEqual(parts_of(state), (2, {"a": 1}, {0: (3, ("next", (0, 1)), 2), 1: (1, WAS, 1)}, (0, 1)))
        for entry in ((1, 2, ("get", "a")), (0, 3, STOP), (0, 1, STOP), (4, 1, STOP)):
            self.assertEqual(kind_of_error(state.done, [entry]), (InvalidOperation, None))
            self.assertEqual(kind_of_error(state.run, [(entry,)]), (InvalidOperation, None))
        self.assertEqual(state.run(()), state)
        self.assertEqual(kind_of_error(State.first().run, [((0, 3, STOP), (1, 1, ("get", "a")))]), (InvalidOperation, None))
        opened = state.reopened()
        self.assertEqual(parts_of(opened), parts_of(state)[:3] + (None,))
        self.assertEqual(opened.done((0, 3, STOP))[1], ("next", (0, 1)))
        self.assertEqual(opened.done((0, 3, STOP))[0].next, None)
        self.assertEqual(opened.done((0, 4, STOP))[0].next, (0, 1))
        self.assertEqual(kind_of_error(opened.reopened, []), (InvalidOperation, None))
        self.assertEqual(kind_of_error(State.first().reopened, []), (InvalidOperation, None))

    def test_a_late_stop_or_a_copy_stops_nothing(self):
        state = State.first().run(((0, 3, ("get", "a")),))
        self.assertEqual(state.done((0, 3, STOP))[0].next, None)
        self.assertEqual(state.done((0, 2, STOP))[0].next, None)
        self.assertEqual(state.done((0, 2, STOP))[1], None)

    def test_the_greatest_length(self):
        state = State(MOST - 1, {}, {0: (1, WAS, MOST - 1)}, None)
        last, answer = state.done((1, 1, ("get", "a")))
        self.assertEqual((last.length, answer), (MOST, ("is", None)))
        for entry in ((1, 2, ("get", "a")), (1, 1, ("get", "a"))):
            self.assertEqual(kind_of_error(last.done, [entry]), (InvalidOperation, None))
            self.assertEqual(kind_of_error(state.run, [(entry, entry)]), (InvalidOperation, None))
        self.assertEqual(last.run(()), last)

    def test_rows_are_as_told(self):
        chance = random.Random(8)
        for _ in range(300):
            entries = random_entries(chance, chance.randrange(12))
            if chance.randrange(3) == 0:
                entries += ((chance.randrange(5), 9, STOP),)
            told, answers = reference(entries)
            state = State.first().run(entries)
            self.assertEqual(parts_of(state), told)
            one_by_one, found = State.first(), []
            for entry in entries:
                one_by_one, answer = one_by_one.done(entry)
                found.append(answer)
            self.assertEqual((one_by_one, found), (state, answers))

    def test_only_firsts_are_done(self):
        chance = random.Random(9)
        for _ in range(200):
            entries = random_entries(chance, 10, clients=3)
            whole = State.first().run(entries)
            alone = State.first().run(tuple(entries[index] for index in firsts(entries)))
            self.assertEqual(whole.pairs, alone.pairs)
            self.assertEqual({client: session[:2] for client, session in whole.sessions.items()},
                             {client: session[:2] for client, session in alone.sessions.items()})

    def test_cut_anywhere(self):
        chance = random.Random(10)
        for _ in range(40):
            entries = random_entries(chance, 9) + ((0, 9, STOP),)
            whole = State.first().run(entries)
            for cut in range(len(entries) + 1):
                beginning = State.first().run(entries[:cut])
                self.assertEqual(beginning.run(entries[cut:]), whole)
                self.assertEqual(state_of_parts(beginning.parts()).run(entries[cut:]), whole)

    def test_firsts(self):
        get = ("get", "a")
        self.assertEqual(firsts(()), ())
        self.assertEqual(firsts(((0, 2, get), (0, 1, get), (0, 2, get), (1, 1, get), (0, 3, get), (1, 1, get))), (0, 3, 4))
        self.assertEqual(firsts(((4, 10 ** 60 - 1, get), (4, 1, get))), (0,))

    def test_kept_and_late(self):
        state = State.first().run(((2, 5, ("put", "a", 1)), (2, 7, ("get", "a"))))
        self.assertEqual([state.kept(2, 7), state.kept(2, 5), state.kept(2, 8), state.kept(1, 7), state.kept(2, 0)],
                         [("is", 1), None, None, None, None])
        self.assertEqual([state.is_late(2, 6), state.is_late(2, 7), state.is_late(2, 8), state.is_late(1, 1),
                          state.is_late(2, 0)], [True, False, False, False, True])

    def test_not_true(self):
        one, other = (0, 1, ("get", "a")), (0, 2, ("get", "a"))
        # that two rows with the same firsts have the same states
        first, second = State.first().run((one, one, other)), State.first().run((one, other, other))
        self.assertEqual(firsts((one, one, other)), (0, 2))
        self.assertEqual((first.pairs, first.length), (second.pairs, second.length))
        self.assertNotEqual(first, second)
        # that a late entry is a copy of one ahead of it
        self.assertEqual(State.first().run((other,)).done(one)[1], None)


RIGHT = (
    (0, {}, {}, None), (5, {"a": 1, "b": ""}, {}, None), (1, {}, {0: (1, WAS, 1)}, None),
    (MOST, {}, {4: (10 ** 60 - 1, ("swapped",), MOST)}, None),
    (5, {"z": 0}, {0: (1, WAS, 5), 1: (7, ("next", (0, 1)), 4), 4: (2, ("full",), 1)}, None),
    (5, {}, {0: (1, WAS, 4), 1: (7, ("next", (0, 1)), 5)}, (0, 1)), (5, {}, {1: (7, ("next", (0, 1)), 5)}, None),
    (24, {chr(97 + at): at for at in range(24)}, {client: (1, ("is", 1), client + 1) for client in range(5)}, None))
WRONG = (
    (5, {"a": None}, {}, None), (5, {"A": 1}, {}, None), (5, {"a": True}, {}, None), (5, {"a": 10 ** 12}, {}, None),
    (5, {chr(97 + at): at for at in range(25)}, {}, None), (5, (), {}, None), (5, {}, (), None), (5, {}, None, None),
    (5, {}, {5: (1, WAS, 1)}, None), (5, {}, {True: (1, WAS, 1)}, None), (5, {}, {"a": (1, WAS, 1)}, None),
    (5, {}, {0: [1, WAS, 1]}, None), (5, {}, {0: (1, WAS)}, None), (5, {}, {0: (1, WAS, 1, 1)}, None),
    (5, {}, {0: (0, WAS, 1)}, None), (5, {}, {0: (True, WAS, 1)}, None), (5, {}, {0: (10 ** 60, WAS, 1)}, None),
    (5, {}, {0: (1, ("was", True), 1)}, None), (5, {}, {0: (1, ("get", "a"), 1)}, None), (5, {}, {0: (1, None, 1)}, None),
    (5, {}, {0: (1, WAS, 0)}, None), (5, {}, {0: (1, WAS, 6)}, None), (5, {}, {0: (1, WAS, True)}, None),
    (0, {}, {0: (1, WAS, 1)}, None), (5, {}, {0: (1, WAS, 1), 1: (1, WAS, 1)}, None), (5, {}, {}, (0, 1)),
    (5, {}, {0: (1, ("next", (0, 1)), 4)}, (0, 1)), (5, {}, {0: (1, ("next", (0, 2)), 5)}, (0, 1)),
    (5, {}, {0: (1, ("next", (0, 1)), 4), 1: (1, WAS, 5)}, (0, 1)), (5, {}, {0: (1, ("next", (0, 1)), 5)}, [0, 1]),
    (5, {}, {0: (1, ("next", (0, 1)), 5)}, (1, 0)), (5, {}, {0: (1, ("next", (0, 1)), 5)}, (False, True)),
    (5, {}, {0: (1, ("next", (0, 1)), 5)}, 0))


class PartsTest(unittest.TestCase):
    def test_right_parts(self):
        for parts in RIGHT:
            state = State(*parts)
            self.assertEqual(parts_of(state), parts)
            self.assertEqual([list(state.pairs), list(state.sessions)], [sorted(parts[1]), sorted(parts[2])])
            self.assertIs(is_parts(state.parts()), True)
            self.assertEqual(state_of_parts(state.parts()), state)

    def test_wrong_parts(self):
        for parts in WRONG:
            self.assertEqual(kind_of_error(State, parts), (InvalidState, None), parts)
            for length in (-1, MOST + 1, True, None, "5", 10 ** 60):
                self.assertEqual(kind_of_error(State, (length,) + parts[1:]), (InvalidNumber, length))
        self.assertEqual(kind_of_error(State, (MOST, {}, {}, None)), None)

    def test_parts_told_and_read(self):
        state = State(9, {"b": 2, "a": "x"}, {4: (2, WAS, 7), 0: (1, ("next", (3,)), 9)}, (3,))
        told = (("state", 9, (3,)), ("pair", "a", "x"), ("pair", "b", 2), ("session", 0, 1, ("next", (3,)), 9),
                ("session", 4, 2, WAS, 7))
        self.assertEqual(state.parts(), told)
        self.assertEqual(parts_of(state_of_parts(told)), parts_of(state))

    def test_values_near_to_parts(self):
        told = State(9, {"b": 2, "a": "x"}, {4: (2, WAS, 7), 0: (1, ("next", (3,)), 9)}, (3,)).parts()
        near = [(), told[0], list(told), told[1:], told[:1] + told, told + told[4:], told[::-1], told[:3] + told[2:],
                told[1:2] + told[:1] + told[2:], (told[0], told[2], told[1], *told[3:]), told[:3] + (told[4], told[3]),
                (told[0], told[3], told[1], told[2], told[4]), told + (None,), told + (("pair",),), told + ((),), told + (1,),
                (told[0], told[1], ("pair", "a", 2), *told[3:]), (["state", 9, (3,)], *told[1:]), told[:3], told[:4] + (1,),
                told[:4] + (("session", 0, 2, WAS, 7),), told[:3] + told[4:], told + (("state", 9, (3,)),)]
        for wrong in near:
            self.judge_wrong(wrong)
        self.assertIs(is_parts(told[:4]), True)
        self.assertIs(is_parts((told[0], *told[3:])), True)

    def test_one_member_wrong(self):
        told = State(9, {"b": 2}, {4: (2, WAS, 7), 0: (1, ("next", (3,)), 9)}, (3,)).parts()
        odd = [value for value in odd_values() if value != "a"] + ["stat", "pairs", 7.0]
        for at, part in enumerate(told):
            for place in range(len(part)):
                for value in odd:
                    changed = told[:at] + (part[:place] + (value,) + part[place + 1:],) + told[at + 1:]
                    self.assertIs(is_parts(changed), self.is_right(changed), changed)
                self.judge_wrong(told[:at] + (part[:place] + part[place + 1:],) + told[at + 1:])
                self.judge_wrong(told[:at] + (part[:place] + (1,) + part[place:],) + told[at + 1:])

    def is_right(self, value):
        """Whether just a state tells such parts; the rows stand in their sequence, with two sessions."""
        head, pair, first, second = value
        if [type(row[0]) for row in value] != [str] * 4 or [row[0] for row in value] != ["state", "pair"] + ["session"] * 2:
            return False
        if type(first[1]) is not int or type(second[1]) is not int or not first[1] < second[1] or type(pair[1]) is not str:
            return False
        sessions = {first[1]: first[2:], second[1]: second[2:]}
        return kind_of_error(State, [head[1], {pair[1]: pair[2]}, sessions, head[2]]) is None

    def judge_wrong(self, value):
        self.assertIs(is_parts(value), False, value)
        self.assertEqual(kind_of_error(state_of_parts, [value]), (InvalidState, None))

    def test_no_value_raises_an_error(self):
        for value in odd_values() + [nested(tuple, 100000), (("state", 0, nested(tuple, 100000)),)]:
            self.assertIs(is_parts(value), value == (("state", 0, None),))


class ObjectTest(unittest.TestCase):
    def test_a_state_never_changes(self):
        pairs, sessions = {"a": 1}, {0: (1, WAS, 1)}
        state = State(2, pairs, sessions, None)
        pairs["b"] = 2
        sessions[1] = (1, WAS, 2)
        state.pairs["c"] = 3
        state.sessions.clear()
        self.assertEqual(parts_of(state), (2, {"a": 1}, {0: (1, WAS, 1)}, None))
        later = state.run(((1, 1, ("put", "b", 2)), (2, 1, STOP)))
        later.reopened()
        self.assertEqual(parts_of(state), (2, {"a": 1}, {0: (1, WAS, 1)}, None))
        self.assertEqual(later.next, (0, 1))

    def test_equality(self):
        states = [State(*parts) for parts in RIGHT]
        for i, one in enumerate(states):
            for j, other in enumerate(states):
                self.assertEqual([one == other, one != other], [i == j, i != j])
            for value in odd_values():
                if not isinstance(value, State):
                    self.assertEqual([one == value, one != value, value == one], [False, True, False])
        self.assertEqual(State(2, {"b": 1, "a": 2}, {}, None), State(2, {"a": 2, "b": 1}, {}, None))

    def test_text(self):
        self.assertEqual(str(State.first()), "state of 0 entries: 0 keys, 0 sessions")
        self.assertEqual([str(State(*parts)) for parts in RIGHT[4:6]],
                         ["state of 5 entries: 1 keys, 3 sessions", "state of 5 entries: 0 keys, 2 sessions, stopped"])

    def test_states_are_not_iterated_over(self):
        self.assertRaises(TypeError, iter, State.first())

    def test_errors(self):
        state = State.first().run(((0, 1, ("put", "a", 1)),))
        check_errors(self, state.done, [Parameter((0, 2, ("get", "a")), is_entry, InvalidDeed)])
        check_errors(self, state.run, [ENTRIES])
        check_errors(self, firsts, [ENTRIES])
        check_errors(self, state.kept, [CLIENTS, NUMBERS])
        check_errors(self, state.is_late, [CLIENTS, NUMBERS])
        check_errors(self, state_of_parts, [Parameter((("state", 0, None),), is_parts, InvalidState)])
        check_errors(self, State, [Parameter(5, number_from(0, MOST), InvalidNumber),
                                   Parameter({"a": 1}, lambda value: value in ({"a": 1}, {}), InvalidState),
                                   Parameter({}, lambda value: value in ({},), InvalidState),
                                   Parameter(None, lambda value: value is None, InvalidState)])

    def test_errors_that_come_then(self):
        stopped = State.first().run(((0, 1, STOP),))
        longest = State(MOST, {}, {}, None)
        for state in (stopped, longest):
            for value in odd_values():
                if not is_entry(value):
                    self.assertEqual(kind_of_error(state.done, [value]), (InvalidDeed, None))
                self.assertEqual(kind_of_error(state.run, [((0, 5, ("get", "a")), value)]),
                                 (InvalidOperation if is_entry(value) else InvalidDeed, None))


if __name__ == "__main__":
    unittest.main()
