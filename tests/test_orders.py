import itertools
import random
import unittest

from drawing import Drawn, drawn_world
from halvesmeet.base.values import ordered
from halvesmeet.errors import InvalidHistory, InvalidOperation, InvalidWorld, Refused, TooMany
from halvesmeet.judge.guards import broken_run, world_of_run
from halvesmeet.judge.orders import (
    MAX_SHORT, MAX_STANDINGS, history_paper, is_history, is_history_paper, is_order, names, order_paper, standings_behind)
from halvesmeet.store.deeds import done, run_deeds
from halvesmeet.world.worlds import World
from support import Parameter, check_errors, kind_of_error, odd_values, own_objects, shown
from test_clients import drawn_history, is_right_history

THREE = (0, 1, 2)
PUT, GET = ("put", "a", 1), ("get", "a")
STALE = (("call", 0, 1, PUT), ("answer", 0, 1, ("was", None), 1), ("call", 1, 1, GET), ("answer", 1, 1, ("is", None), 0))
SEEN = (("call", 0, 1, PUT), ("call", 1, 1, GET), ("answer", 1, 1, ("is", 1), 1))
CROSSED = (("call", 0, 1, PUT), ("call", 1, 1, GET), ("answer", 0, 1, ("was", None), 1), ("answer", 1, 1, ("is", None), 0))
DEEDS = (PUT, ("put", "a", 2), GET, ("add", "a", 1), ("drop", "a"), ("swap", "a", 1, 2), ("list", "a", "c"), ("put", "b", 1), ("circle", (0, 1)))
HISTORY = Parameter(SEEN, lambda value: type(value) is tuple and is_history(value), InvalidHistory)


class Unseen:
    """A history whose deeds are done unseen, at some time between each call and its answer."""

    def __init__(self, chance, clients, many, deeds=DEEDS):
        self.chance, self.many, self.deeds = chance, many, deeds
        self.pairs, self.order, self.rows = {}, [], []
        self.calls = {client: 0 for client in range(clients)}
        # for each client its open call: the name, the deed, and the answer as soon as it is done
        self.open = {client: None for client in range(clients)}
        while sum(self.calls.values()) < many or (chance.randrange(3) and any(self.open.values())):
            self.step()

    def step(self):
        client = self.chance.choice(sorted(self.open))
        told = self.open[client]
        if told is None:
            if sum(self.calls.values()) < self.many:
                self.call(client)
            return
        name, deed, answer = told
        kind = self.chance.randrange(8)
        if answer is None and kind < 5:
            self.pairs, answer = done(self.pairs, deed)
            self.order.append(name)
            self.open[client] = (name, deed, answer)
        elif answer is not None and kind < 6:
            self.rows.append(("answer", client, name[1], answer, len(self.order)))
            self.open[client] = None
        elif kind == 7 and sum(self.calls.values()) < self.many:
            self.call(client)

    def call(self, client):
        self.calls[client] += 1
        name = (client, self.calls[client])
        deed = self.chance.choice(self.deeds)
        self.rows.append(("call", client, name[1], deed))
        self.open[client] = (name, deed, None)


def plain_is_order(history, value):
    """A plain account of what is an order."""
    calls = {row[1:3]: at for at, row in enumerate(history) if row[0] == "call"}
    answers = {row[1:3]: at for at, row in enumerate(history) if row[0] == "answer"}
    if type(value) is not tuple or any(type(name) is not tuple or len(name) != 2 or name not in calls or type(name[0]) is not int
                                       or type(name[1]) is not int for name in value):
        return False
    if len(set(value)) != len(value) or not set(answers) <= set(value):
        return False
    for one, other in itertools.combinations(value, 2):
        if other in answers and answers[other] < calls[one]:
            return False
    _, given = run_deeds({}, tuple(history[calls[name]][3] for name in value))
    return all(name not in answers or history[answers[name]][3] == answer for name, answer in zip(value, given))


def plain_order(history):
    """Some order, found by trying all, None if there is none."""
    calls = [row[1:3] for row in history if row[0] == "call"]
    for many in range(len(calls) + 1):
        for value in itertools.permutations(calls, many):
            if plain_is_order(history, value):
                return value
    return None


def near(chance, value):
    """Orders with a name left out, doubled, exchanged, or put in."""
    for at in range(len(value)):
        yield value[:at] + value[at + 1:]
        yield value[:at] + (value[at],) + value[at:]
        yield value[:at] + value[at:at + 2][::-1] + value[at + 2:]
        yield value[:at] + ((4, 9),) + value[at:]
    yield value + ((0, 1),)
    yield ((0, 1),) + value


class HistoryTest(unittest.TestCase):
    def test_histories(self):
        for seed in range(60):
            chance = random.Random(seed)
            rows = drawn_history(chance, chance.randrange(12))
            self.assertIs(is_history(rows), True)
            self.assertEqual(names(rows), tuple(row[1:3] for row in rows if row[0] == "call"))
            for at in range(len(rows)):
                for other in (rows[:at] + rows[at + 1:], rows[:at] + rows[at:at + 1] + rows[at:], rows[:at] + rows[at:at + 2][::-1] + rows[at + 2:]):
                    self.assertIs(is_history(other), is_right_history(other))
                    if not is_right_history(other):
                        self.assertEqual(kind_of_error(names, [other]), (InvalidHistory, None))
        for value in odd_values() + own_objects() + [list(SEEN), SEEN[2:], SEEN[:1] * 2, (SEEN[0] + (1,),)]:
            told = type(value) is tuple and value in ((), (("call", 0, 1, GET),))
            self.assertIs(is_history(value), told, value)

    def test_worlds_have_histories(self):
        for seed in range(5):
            for world in Drawn(seed).worlds(200):
                pass
            self.assertTrue(is_history(world.history))

    def test_errors(self):
        check_errors(self, names, [HISTORY])
        for function in (is_order, is_history_paper, standings_behind):
            for value in odd_values():
                if not (type(value) is tuple and is_history(value)):
                    self.assertEqual(kind_of_error(function, [value, value]), (InvalidHistory, None))


class OrderTest(unittest.TestCase):
    def test_unseen_orders(self):
        told = {True: 0, False: 0}
        for seed in range(200):
            chance = random.Random(seed)
            unseen = Unseen(chance, chance.randint(1, 5), chance.randrange(14))
            history, order = tuple(unseen.rows), tuple(unseen.order)
            self.assertIs(is_order(history, order), True)
            for value in near(chance, order):
                told[plain_is_order(history, value)] += 1
                self.assertIs(is_order(history, value), plain_is_order(history, value), (history, value))
            self.check_beginnings(history, order)
        self.assertGreater(min(told.values()), 200)

    def check_beginnings(self, history, order):
        for many in range(len(history) + 1):
            called = names(history[:many])
            cut = [at for at, name in enumerate(order) if name not in called]
            self.assertIs(is_order(history[:many], order[:cut[0]] if cut else order), True)

    def test_open_calls(self):
        # named, and not named
        self.assertEqual([is_order(SEEN, value) for value in (((0, 1), (1, 1)), ((1, 1),), ((1, 1), (0, 1)), ())], [True, False, False, False])
        history = (("call", 0, 1, PUT), ("call", 1, 1, GET))
        for value in ((), ((0, 1),), ((1, 1),), ((0, 1), (1, 1)), ((1, 1), (0, 1))):
            self.assertIs(is_order(history, value), True)

    def test_long_histories(self):
        rows, order = [], []
        for number in range(1, 1501):
            rows += [("call", 0, number, ("add", "a", 1)), ("answer", 0, number, ("sum", number), number)]
            order.append((0, number))
        self.assertIs(is_order(tuple(rows), tuple(order)), True)
        self.assertIs(is_order(tuple(rows), tuple(order[:-1])), False)
        self.assertIs(is_order(tuple(rows[:-1]), tuple(order[:-1])), True)
        order[700:702] = order[701:699:-1]
        self.assertIs(is_order(tuple(rows), tuple(order)), False)

    def test_values_that_are_none(self):
        history = (("call", 1, 1, PUT),)
        for value in odd_values() + own_objects() + [[(1, 1)], ((True, 1),), ((1, True),), ([1, 1],), ((1, 1, 1),), (1, 1), ((1,),), ("a",)]:
            self.assertIs(is_order(history, value), type(value) is tuple and value == ())
        self.assertIs(is_order(history, ((1, 1),)), True)

    def test_not_true(self):
        # the calls of each client alone have an order
        self.assertTrue(plain_order(tuple(row for row in STALE if row[1] == 0)) and plain_order(tuple(row for row in STALE if row[1] == 1)))
        self.assertIsNone(plain_order(STALE))
        # no order has the sequence of the answers
        self.assertFalse(is_order(CROSSED, ((0, 1), (1, 1))))
        self.assertTrue(is_order(CROSSED, ((1, 1), (0, 1))))
        # no order without the open call
        self.assertEqual([value for value in ((), ((1, 1),)) if is_order(SEEN, value)], [])


class WorldTest(unittest.TestCase):
    def test_drawn_worlds(self):
        many = reads = 0
        for seed in range(40):
            world = Drawn(seed, clients=1 + seed % 5, stops=0.08).run(350)
            paper = order_paper(world)
            self.assertIs(is_order(world.history, paper), True)
            self.assertIs(plain_is_order(world.history, paper), True)
            many += len(paper)
            reads += self.check_places(world, paper)
        self.assertGreater(many, 150)
        self.assertGreater(reads, 20)

    def check_places(self, world, paper):
        """Checks that entries stand by their places, reads behind what they saw; returns how many reads there are."""
        row = [entry[:2] for _, entry in world.decided]
        calls = {told[1:3]: told[3] for told in world.history if told[0] == "call"}
        reads = [told for told in world.history if told[0] == "answer" and calls[told[1:3]][0] in ("get", "list")]
        places = {name: (row.index(name) + 1, 0) for name in row}
        places.update({told[1:3]: (told[4], 1 + at) for at, told in enumerate(reads)})
        self.assertEqual(list(paper), sorted(places, key=places.get))
        return len(reads)

    def test_entries_that_are_no_firsts(self):
        world = drawn_world(2, 10)
        for told, wished in (((), ()), ((0, 0), (0,)), ((1, 0), (0,)), ((0, 1, 0, 2), (0, 1, 3))):
            entries = ((0, 1, PUT), (0, 2, PUT), (1, 1, PUT))
            world._parts = {**world._parts, "decided": {at: (entries[number],) for at, number in enumerate(told)}, "history": ()}
            self.assertEqual(order_paper(world), tuple(entries[told[at]][:2] for at in wished))

    def test_errors(self):
        check_errors(self, order_paper, [Parameter(World(THREE, 1), lambda value: isinstance(value, World), InvalidWorld)])
        for word in ("half", "best", "sync"):
            world = world_of_run(broken_run(word), without=word)
            self.assertEqual(kind_of_error(order_paper, [world]), (Refused, ("rows",)))


class StandingTest(unittest.TestCase):
    def test_along_orders_and_others(self):
        for seed in range(80):
            chance = random.Random(seed)
            unseen = Unseen(chance, chance.randint(1, 5), chance.randrange(8))
            history, order = tuple(unseen.rows), tuple(unseen.order)
            calls = names(history)
            standing = ((), ())
            for name in order:
                self.check(history, standing)
                standing = self.behind(history, standing, name)
            for _ in range(6):
                named = tuple(sorted(chance.sample(calls, chance.randrange(len(calls) + 1))))
                self.check(history, (named, tuple(sorted(chance.sample((("a", 1), ("b", "x"), ("c", 3)), chance.randrange(4))))))

    def behind(self, history, standing, name):
        deed = [row[3] for row in history if row[:3] == ("call",) + name][0]
        pairs, _ = done(dict(standing[1]), deed)
        return tuple(sorted(standing[0] + (name,))), tuple(pairs.items())

    def check(self, history, standing):
        calls = {row[1:3]: at for at, row in enumerate(history) if row[0] == "call"}
        answers = {row[1:3]: at for at, row in enumerate(history) if row[0] == "answer"}
        wished = []
        for name in calls:
            ahead = [other for other in answers if answers[other] < calls[name]]
            answer = done(dict(standing[1]), history[calls[name]][3])[1]
            if name not in standing[0] and set(ahead) <= set(standing[0]) and (name not in answers or history[answers[name]][3] == answer):
                wished.append(self.behind(history, standing, name))
        before = shown((history, standing))
        self.assertEqual(standings_behind(history, standing), ordered(tuple(wished)))
        self.assertEqual(shown((history, standing)), before)

    def test_what_is_no_standing(self):
        history = tuple(("call", client, 1, PUT) for client in range(5)) + (("call", 0, 2, PUT),)
        many = tuple((chr(97 + at), at) for at in range(24))
        right = [((), ()), (((0, 1), (0, 2)), ()), (((4, 1),), (("a", 1), ("b", "x"))), ((), many)]
        for standing in right:
            self.assertIsNone(kind_of_error(standings_behind, [history, standing]))
        wrong = [(), ((),), ((), (), ()), [(), ()], (((0, 2), (0, 1)), ()), (((0, 1), (0, 1)), ()), (((0, 3),), ()), (((0, True),), ()), (((False, 1),), ()),
                 (([0, 1],), ()), ((), (("b", 1), ("a", 1))), ((), (("a", 1), ("a", 2))), ((), (("a", True),)), ((), (("A", 1),)), ((), (("a", None),)),
                 ((), (("a",),)), ((), (("a", 1, 1),)), ((), {"a": 1}), ((), [("a", 1)]), ((), many + (("z", 1),)), ((0, 1), ()), (5, ()), ((), 5), None,
                 ((), ("ab",)), ((), (("a1", 1),)), ((), (("abcdefghi", 1),)), ((), (("", 1),)), ((), (("a", ()),)), ((), (("a", "b" * 13),)), ((), (5,)),
                 ("", ()), ((), ""), (((9, 1),), ()), (((0, 1, 1),), ())]
        for standing in wrong:
            self.assertEqual(kind_of_error(standings_behind, [history, standing]), (InvalidOperation, None), standing)
        for value in odd_values() + own_objects():
            told = None if type(value) is tuple and value == ((), ()) else (InvalidOperation, None)
            self.assertEqual(kind_of_error(standings_behind, [history, value]), told)


class PaperTest(unittest.TestCase):
    def check(self, history):
        """Checks that there is just one of two papers, and returns the right one."""
        order = plain_order(history)
        word, paper = history_paper(history)
        self.assertEqual(word, "table" if order is None else "order")
        self.assertIs(is_history_paper(history, (word, paper)), True)
        if order is not None:
            self.assertIs(plain_is_order(history, paper), True)
            self.assertIs(is_history_paper(history, ("order", order)), True)
            self.assertIs(is_history_paper(history, ("table", self.reachable(history))), False)
        else:
            self.assertLessEqual(len(paper), 2000)
            self.assertEqual(paper, self.reachable(history))
        return word, paper

    def reachable(self, history):
        """All standings to which calls lead, the ascending tuple."""
        found, waiting = {((), ())}, [((), ())]
        while waiting:
            for later in standings_behind(history, waiting.pop()):
                if later not in found:
                    found.add(later)
                    waiting.append(later)
        return ordered(tuple(found))

    def test_unseen_orders(self):
        words = {"order": 0, "table": 0}
        for seed in range(120):
            chance = random.Random(seed)
            unseen = Unseen(chance, chance.randint(1, 5), chance.randrange(6))
            history = tuple(unseen.rows)
            self.assertEqual(self.check(history)[0], "order")
            # one answer changed
            for at in [at for at, row in enumerate(history) if row[0] == "answer"][:2]:
                answer = chance.choice((("was", None), ("is", None), ("is", 1), ("sum", 1), ("sum", 3), ("was", 2)))
                other = history[:at] + (history[at][:3] + (answer,) + history[at][4:],) + history[at + 1:]
                words[self.check(other)[0]] += 1
        self.assertGreater(min(words.values()), 8, words)

    def test_all_small_histories(self):
        rows = [("call", 0, 1, PUT), ("answer", 0, 1, ("was", None), 1), ("call", 1, 1, GET), ("answer", 1, 1, ("is", None), 0),
                ("answer", 1, 1, ("is", 1), 0), ("call", 1, 2, GET), ("answer", 1, 2, ("is", 1), 0), ("call", 2, 1, ("add", "a", 1)),
                ("answer", 2, 1, ("sum", 1), 0), ("answer", 2, 1, ("sum", 2), 0)]
        many = {"order": 0, "table": 0}
        level = [()]
        for _ in range(7):
            level = [history + (row,) for history in level for row in rows if is_history(history + (row,))]
            for history in level[:: 1 + len(level) // 250]:
                many[self.check(history)[0]] += 1
        self.assertGreater(min(many.values()), 30)

    def test_told_ones(self):
        self.assertEqual([self.check(history)[0] for history in ((), STALE, SEEN, CROSSED)], ["order", "table", "order", "order"])
        self.assertEqual(history_paper(()), ("order", ()))
        self.assertEqual((MAX_SHORT, MAX_STANDINGS), (6, 2000))

    def test_six_and_seven_calls(self):
        six = tuple(("call", client, 1, ("put", "a", client)) for client in range(5)) + (("call", 0, 2, GET),)
        self.assertEqual(self.check(six)[0], "order")
        # six at once that have no order, and many standings
        wide = tuple(("call", client, 1, ("add", "a", 10 ** client)) for client in range(5)) + (("call", 0, 2, ("get", "b")),)
        wide += (("answer", 0, 2, ("is", 1), 0),)
        word, paper = history_paper(wide)
        self.assertEqual(word, "table")
        self.assertIs(is_history_paper(wide, (word, paper)), True)
        seven = six + (("call", 1, 2, GET),)
        for function, args in ((history_paper, [seven]), (is_history_paper, [seven, ("order", ())]), (is_history_paper, [seven, 5])):
            self.assertEqual(kind_of_error(function, args), (TooMany, 6))
        # a wrong history comes first
        self.assertEqual(kind_of_error(history_paper, [seven + seven[:1]]), (InvalidHistory, None))
        self.assertIs(is_order(seven, ()), True)

    def test_tables_near_right_ones(self):
        history = STALE[:2] + (("call", 1, 1, ("add", "b", 1)), ("call", 2, 1, ("put", "b", 5))) + (("call", 3, 1, GET), ("answer", 3, 1, ("is", 7), 0))
        word, table = self.check(history)
        self.assertEqual(word, "table")
        self.assertGreater(len(table), 4)
        is_paper = lambda value: is_history_paper(history, ("table", value))
        self.assertIs(is_paper(table), True)
        # one that lacks a standing, is not ascending, has one twice
        for at in range(len(table)):
            self.assertIs(is_paper(table[:at] + table[at + 1:]), False)
            self.assertIs(is_paper(table[:at] + table[at:at + 1] + table[at:]), False)
            self.assertIs(is_paper(table[:at] + table[at:at + 2][::-1] + table[at + 2:]), at == len(table) - 1)
        # one with further standings: right as long as it is closed and has no end
        alone = (((1, 1), (2, 1)), (("b", 7),))
        more = self.closed(history, table + (alone,))
        self.assertGreater(len(more), len(table))
        self.assertIs(is_paper(more), True)
        self.assertIs(is_paper(ordered(table + (alone,))), len(more) == len(table) + 1)
        # one that is closed, but has an end
        end = (tuple(sorted(names(history))), ())
        self.assertIs(is_paper(self.closed(history, table + (end,))), False)
        self.assertIs(is_paper(list(table)), False)

    def closed(self, history, table):
        found = {standing: True for standing in table}
        waiting = list(found)
        while waiting:
            for later in standings_behind(history, waiting.pop()):
                if later not in found:
                    found[later] = True
                    waiting.append(later)
        return ordered(tuple(found))

    def test_many_standings(self):
        # one answered call that can never be next, and standings without number behind others
        history = (("call", 0, 1, GET), ("answer", 0, 1, ("is", 7), 0))
        standings = [((), ())] + [((), (("a", number),)) for number in range(3000) if number != 7]
        table = ordered(tuple(standings[:2000]))
        self.assertEqual(len(table), 2000)
        self.assertIs(is_history_paper(history, ("table", table)), True)
        self.assertIs(is_history_paper(history, ("table", ordered(tuple(standings[:2001])))), False)
        # with one from which the call may be next
        self.assertIs(is_history_paper(history, ("table", ordered(tuple(standings[:1000]) + (((), (("a", 7),)),)))), False)
        self.assertEqual(history_paper(history), ("table", (((), ()),)))

    def test_values_that_are_none(self):
        right = ("order", ((0, 1), (1, 1)))
        self.assertIs(is_history_paper(SEEN, right), True)
        for value in odd_values() + own_objects() + [right[1], ["order", right[1]], ("order",), right + (1,), ("orders", right[1]), ("table", right[1]),
                                                     ("order", list(right[1])), ("table", ()), ("table", (((), ()),)), (right,), ("order", ((0, True), (1, 1)))]:
            self.assertIs(is_history_paper(SEEN, value), False, value)
        table = history_paper(STALE)
        for value in (("order", table[1]), ("order", ()), ("table", table[1][1:]), ("table", list(table[1])), ("table", table[1] + (5,)), ("table", ()), ("table", 5),
                      ("tables", table[1]), (None, table[1]), ("table", (5,) + table[1]), ("table", ordered(table[1] + ((((0, 9),), ()),))),
                      ("table", table[1] + (True,)), ("table", table[1] + ([],)), ("table", ordered(table[1] + (((), (("a1", 1),)),)))):
            self.assertIs(is_history_paper(STALE, value), False, value)

    def test_errors(self):
        short = lambda value: HISTORY.is_right(value)
        check_errors(self, history_paper, [Parameter(SEEN, short, InvalidHistory)])


if __name__ == "__main__":
    unittest.main()
