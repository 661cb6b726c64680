import itertools
import random
import unittest

from halvesmeet.errors import InvalidCircle, InvalidDeed, InvalidHistory, InvalidLetter, InvalidNumber, InvalidOperation, TooMany
from halvesmeet.house.houses import House
from halvesmeet.net.letters import is_letter
from halvesmeet.store.deeds import is_deed
from halvesmeet.world import clients as module
from halvesmeet.world.clients import Client, does_fit_clients
from support import Parameter, check_errors, kind_of_error, nested, number_from, odd_values, own_objects, shown

THREE = (0, 1, 2)
PUT, GET = ("put", "a", 1), ("get", "a")
NAMES = ("number", "calls", "open_call", "epoch", "circle", "asks")


def state_of(client):
    return {name: getattr(client, name) for name in NAMES}


def answer(client, number, length=3):
    return "answer", 4, client, number, ("was", None), length


class Plain:
    """A plain account of a client: the open call, and what it knows."""

    def __init__(self, number, circle):
        self.state = {"number": number, "calls": 0, "open_call": None, "epoch": 0, "circle": circle, "asks": min(circle)}

    def call(self, deed):
        self.state["calls"] += 1
        self.state["open_call"] = (self.state["calls"], deed)
        return "deed", self.state["number"], self.state["asks"], self.state["calls"], deed

    def again(self, house):
        if house in self.state["circle"]:
            self.state["asks"] = house
        return ("deed", self.state["number"], house) + self.state["open_call"]

    def leave(self):
        self.state["open_call"] = None

    def take(self, letter):
        state = self.state
        is_open = state["open_call"] is not None and state["open_call"][0] == letter[3]
        if letter[0] == "answer":
            if is_open:
                state["open_call"] = None
                return letter[4], letter[5]
            return None
        _, sender, _, _, other, epoch, circle = letter
        if epoch > state["epoch"]:
            state.update(epoch=epoch, circle=circle, asks=other if other in circle else min(circle))
        elif epoch == state["epoch"] and is_open:
            behind = [house for house in state["circle"] if house > sender] if sender in state["circle"] else []
            state["asks"] = other if other in state["circle"] else (behind + list(state["circle"]))[0]
        return None


class ClientTest(unittest.TestCase):
    def test_at_first(self):
        for number in range(5):
            for circle in (THREE, (4,), (2, 5, 8), tuple(range(7))):
                client = Client(number, circle)
                self.assertEqual(state_of(client), {"number": number, "calls": 0, "open_call": None, "epoch": 0, "circle": circle, "asks": circle[0]})

    def test_drawn_rows(self):
        for seed in range(60):
            chance = random.Random(seed)
            circle = chance.choice((THREE, (1, 4), (5,), (0, 2, 3, 8)))
            client, plain = Client(chance.randrange(5), circle), Plain(0, circle)
            plain.state["number"] = client.number
            for _ in range(120):
                before, told = client, shown(client)
                client = self.step(chance, client, plain)
                self.assertEqual(state_of(client), plain.state)
                self.assertEqual(shown(before), told)

    def step(self, chance, client, plain):
        kind = chance.randrange(10)
        if client.open_call is None and kind < 5:
            deed = chance.choice((PUT, GET, ("circle", (0, 1))))
            later, letter = client.called(deed)
            self.assertEqual(letter, plain.call(deed))
            return later
        if client.open_call is not None and kind < 2:
            house = chance.randrange(9)
            later, letter = client.again(house)
            self.assertEqual(letter, plain.again(house))
            return later
        if client.open_call is not None and kind == 2:
            plain.leave()
            return client.given_up()
        number = max(1, client.calls + chance.choice((-1, 0, 0, 0, 1)))
        if kind < 5:
            letter = ("answer", chance.randrange(9), client.number, number, chance.choice((("was", None), ("full",))), chance.randrange(9))
        else:
            other = chance.choice((None,) + tuple(range(9)))
            epoch = max(0, client.epoch + chance.choice((-1, 0, 0, 0, 0, 1, 5)))
            letter = ("try", chance.randrange(9), client.number, number, other, epoch, chance.choice((client.circle, (3, 6, 7))))
        later, closing = client.taken(letter)
        self.assertEqual(closing, plain.take(letter))
        self.assertIs(type(later), Client)
        return later

    def test_calling(self):
        client, letter = Client(2, THREE).called(PUT)
        self.assertEqual((letter, client.open_call, client.calls), (("deed", 2, 0, 1, PUT), (1, PUT), 1))
        for house in range(9):
            later, letter = client.again(house)
            self.assertEqual(letter, ("deed", 2, house, 1, PUT))
            self.assertEqual(later.asks, house if house in THREE else 0)
        later = client.again(1)[0].given_up()
        self.assertEqual((later.open_call, later.calls, later.asks), (None, 1, 1))
        self.assertEqual(later.called(GET)[1], ("deed", 2, 1, 2, GET))

    def test_answers(self):
        client = Client(2, THREE).called(PUT)[0].given_up().called(GET)[0]
        for number in (1, 3, 4):
            self.assertEqual(client.taken(answer(2, number)), (client, None))
        closed, closing = client.taken(answer(2, 2, 7))
        self.assertEqual((closing, closed.open_call, closed.calls), ((("was", None), 7), None, 2))
        # doubled, and for no open call
        for number in (1, 2, 3):
            self.assertEqual(closed.taken(answer(2, number)), (closed, None))

    def told(self, client, sender, number, other, epoch, circle):
        later, closing = client.taken(("try", sender, client.number, number, other, epoch, circle))
        self.assertIsNone(closing)
        self.assertEqual((later.open_call, later.calls), (client.open_call, client.calls))
        return later.epoch, later.circle, later.asks

    def test_tries_of_the_known_epoch(self):
        circle = (1, 4, 6)
        client = Client(0, circle).called(PUT)[0].given_up().called(PUT)[0]
        for other in range(9):
            for sender in range(9):
                behind = {1: 4, 4: 6}.get(sender, 1)
                self.assertEqual(self.told(client, sender, 2, other, 0, circle), (0, circle, other if other in circle else behind))
        for sender, behind in ((1, 4), (4, 6), (6, 1), (0, 1), (5, 1), (8, 1)):
            self.assertEqual(self.told(client, sender, 2, None, 0, circle), (0, circle, behind))
        # another number, and no open call
        for number in (1, 3):
            self.assertEqual(self.told(client, 1, number, 4, 0, circle), (0, circle, 1))
        self.assertEqual(self.told(client.given_up(), 1, 2, 4, 0, circle), (0, circle, 1))
        # of a circle of one house
        alone = Client(0, (5,)).called(PUT)[0]
        self.assertEqual(self.told(alone, 5, 1, None, 0, (5,)), (0, (5,), 5))

    def test_tries_of_other_epochs(self):
        client = Client(0, THREE).called(PUT)[0].again(1)[0]
        later = (3, 5, 8)
        for number in (1, 2, 9):
            for other in (None,) + tuple(range(9)):
                self.assertEqual(self.told(client, 0, number, other, 4, later), (4, later, other if other in later else 3))
                self.assertEqual(self.told(client.given_up(), 0, number, other, 1, later), (1, later, other if other in later else 3))
        known = client.taken(("try", 0, 0, 1, 5, 4, later))[0]
        for epoch in (0, 1, 3):
            self.assertEqual(self.told(known, 0, 1, 0, epoch, THREE), (4, later, 5))
        self.assertEqual(self.told(known, 3, 1, None, 4, later), (4, later, 5))
        self.assertEqual(self.told(known, 5, 1, None, 4, later), (4, later, 8))

    def test_many_calls(self):
        client = Client(0, THREE)
        for number in range(1, 3001):
            client, letter = client.called(GET)
            self.assertEqual(letter[3], number)
            if number < 2999:
                client = client.given_up()
            elif number == 2999:
                client = client.taken(answer(0, 2999))[0]
        self.assertEqual(client.calls, 3000)
        # an open call comes ahead of too many of them, and a wrong deed ahead of both
        self.assertEqual(kind_of_error(client.called, [GET]), (InvalidOperation, None))
        self.assertEqual(client.again(2)[1], ("deed", 0, 2, 3000, GET))
        client = client.given_up()
        self.assertEqual(kind_of_error(client.called, [GET]), (TooMany, 3000))
        self.assertEqual(kind_of_error(client.called, [("get",)]), (InvalidDeed, None))

    def test_errors(self):
        is_circle = lambda value: type(value) is tuple and kind_of_error(Client, [0, value]) is None
        check_errors(self, Client, [Parameter(0, number_from(0, 4), InvalidNumber), Parameter(THREE, is_circle, InvalidCircle)])
        self.assertEqual(kind_of_error(Client, [5, 5]), (InvalidNumber, 5))
        called = Client(2, THREE).called(PUT)[0]
        deed = Parameter(GET, is_deed, InvalidDeed)
        check_errors(self, Client(2, THREE).called, [deed])
        check_errors(self, called.again, [Parameter(1, number_from(0, 8), InvalidNumber)])
        check_errors(self, called.taken, [Parameter(answer(2, 1), is_letter, InvalidLetter)])
        for value in (0, 8):
            self.assertEqual(kind_of_error(Client(2, THREE).again, [value]), (InvalidOperation, None))
        for value in (9, -1, True, None):
            self.assertEqual(kind_of_error(Client(2, THREE).again, [value]), (InvalidNumber, value))
        self.assertEqual(kind_of_error(called.called, [GET]), (InvalidOperation, None))
        self.assertEqual(kind_of_error(called.called, [("get", "A")]), (InvalidDeed, None))
        self.assertEqual(kind_of_error(Client(2, THREE).given_up, []), (InvalidOperation, None))

    def test_letters_that_go_elsewhere(self):
        client = Client(2, THREE).called(PUT)[0]
        letters = [answer(1, 1), ("try", 0, 3, 1, None, 0, THREE), ("deed", 2, 2, 1, PUT), ("ask", 0, 1, 2, 3, 0), ("begun", 0, 1, 2)]
        for letter in letters:
            self.assertEqual(kind_of_error(client.taken, [letter]), (InvalidOperation, None))
        self.assertEqual(kind_of_error(client.taken, [("answer", 0, 2, True, ("was", None), 1)]), (InvalidLetter, None))

    def test_equal_ones(self):
        one = Client(2, THREE).called(PUT)[0]
        self.assertEqual(one, Client(2, THREE).called(PUT)[0])
        others = [Client(1, THREE).called(PUT)[0], Client(2, (0, 1)).called(PUT)[0], Client(2, THREE).called(GET)[0], one.given_up(),
                  one.again(1)[0], one.given_up().called(PUT)[0], one.taken(("try", 0, 2, 9, 0, 1, THREE))[0]]
        for other in others + odd_values() + own_objects():
            self.assertFalse(one == other)
            self.assertTrue(one != other)
        self.assertEqual(one.given_up(), one.taken(answer(2, 1))[0])

    def test_texts(self):
        client = Client(2, THREE)
        self.assertEqual(str(client), "client 2: 0 calls, asks 0")
        client = client.called(PUT)[0].given_up().called(PUT)[0].again(1)[0]
        self.assertEqual([str(client), str(client.given_up())], ["client 2: 2 calls, asks 1, open 2", "client 2: 2 calls, asks 1"])

    def test_not_true(self):
        # a call that was given up is done later, as its letter is still there
        house = House.fresh(4, (4,)).beaten().beaten().beaten()
        for _ in range(2):
            house, letters = house.synced()
            house = house.taken(letters[-1])
        client, letter = Client(2, (4,)).called(PUT)
        client = client.given_up()
        house = house.synced()[0].taken(letter)
        self.assertEqual(house.facts.entries, ((2, 1, PUT),))


def is_right_history(rows):
    """A plain account of what can come of clients."""
    for client in range(5):
        told = [row for row in rows if row[1] == client]
        wished = 0
        waits = None
        for row in told:
            if row[0] == "call":
                wished += 1
                if row[2] != wished:
                    return False
                waits = wished
            else:
                if row[2] != waits:
                    return False
                waits = None
    return True


def drawn_history(chance, many):
    """A history that can come of clients."""
    calls, waiting, rows = [0] * 5, set(), []
    while len(rows) < many:
        client = chance.randrange(5)
        if client in waiting and chance.randrange(4):
            waiting.remove(client)
            rows.append(("answer", client, calls[client], chance.choice((("was", None), ("sum", 4), (), ("odd", (1,)))), chance.randrange(9)))
        else:
            calls[client] += 1
            waiting.add(client)
            rows.append(("call", client, calls[client], chance.choice((PUT, GET, ("circle", (0,))))))
    return tuple(rows)


class FitTest(unittest.TestCase):
    def test_drawn_histories(self):
        for seed in range(150):
            chance = random.Random(seed)
            rows = drawn_history(chance, chance.randrange(25))
            self.assertIs(does_fit_clients(rows), True)
            for other in self.near(chance, rows):
                self.assertIs(does_fit_clients(other), is_right_history(other), other)

    def near(self, chance, rows):
        for at in range(len(rows)):
            yield rows[:at] + rows[at + 1:]
            yield rows[:at] + (rows[at],) * 2 + rows[at + 1:]
            yield rows + (rows[at],)
            yield rows[:at] + rows[at:at + 2][::-1] + rows[at + 2:]
            row = rows[at]
            for other in (row[:1] + ((row[1] + 1) % 5,) + row[2:], row[:2] + (row[2] + 1,) + row[3:], row[:2] + (max(1, row[2] - 1),) + row[3:]):
                yield rows[:at] + (other,) + rows[at + 1:]

    def test_small_histories(self):
        rows = [("call", 0, 1, PUT), ("call", 0, 2, PUT), ("answer", 0, 1, ("was", None), 1), ("answer", 0, 2, ("was", None), 1),
                ("call", 1, 1, GET), ("answer", 1, 1, (), 0)]
        many = 0
        for length in range(5):
            for told in itertools.product(rows, repeat=length):
                many += does_fit_clients(told)
                self.assertIs(does_fit_clients(told), is_right_history(told))
        self.assertGreater(many, 20)

    def test_long_ones(self):
        rows = tuple(row for number in range(1, 1501) for row in (("call", 0, number, GET), ("answer", 0, number, ("is", None), 0)))
        self.assertIs(does_fit_clients(rows), True)
        self.assertEqual(kind_of_error(does_fit_clients, [rows + (("call", 0, 1501, GET),)]), (InvalidHistory, None))
        calls = tuple(("call", 0, number, GET) for number in range(1, 3001))
        self.assertIs(does_fit_clients(calls), True)
        self.assertIs(does_fit_clients(calls[:2999]), True)
        self.assertEqual(kind_of_error(does_fit_clients, [calls + (("call", 0, 3001, GET),)]), (InvalidHistory, None))

    def test_errors(self):
        is_right = lambda value: value in ((), (("call", 0, 1, ("get", "a")),), (("answer", 0, 1, ("is", None), 0),)) and type(value) is tuple
        check_errors(self, does_fit_clients, [Parameter((), is_right, InvalidHistory)])
        good = ("call", 0, 1, GET)
        wrong = [["call", 0, 1, GET], good[:3], good + (1,), ("calls",) + good[1:], ("call", 5, 1, GET), ("call", -1, 1, GET), ("call", True, 1, GET),
                 ("call", 0, 0, GET), ("call", 0, True, GET), ("call", 0, 10 ** 60, GET), ("call", 0, 1, ("get", "A")), ("call", 0, 1, ["get", "a"]),
                 ("answer", 0, 1, ("is", None)), ("answer", 0, 1, ("is", None), 0, 0), ("answer", 0, 1, ("is", None), -1),
                 ("answer", 0, 1, ("is", None), True), ("answer", 0, 1, "is", 0), ("answer", 0, 1, None, 0), ("answer", 0, 1, ["is", None], 0),
                 ("answer", 0, 1, (True,), 0), ("answer", 0, 1, ("A",), 0), ("answer", 0, 1, nested(tuple, 11), 0), ("answer", 0, "1", (), 0), 5, None, "call",
                 (), ("call",), ("call", 0), ("answer",), ("answer", 0), ("answer", 0, 1, (), "1"), ("answer", 0, 1, (), None), ("answer", 0, 1, (), ()),
                 ("call", 0, None, GET), ("call", None, 1, GET), ("call", 0, (), GET)]
        for row in wrong:
            self.assertEqual(kind_of_error(does_fit_clients, [(good, row)]), (InvalidHistory, None), row)
            self.assertEqual(kind_of_error(does_fit_clients, [(row, good)]), (InvalidHistory, None), row)
        self.assertIs(does_fit_clients((good, ("answer", 0, 1, nested(tuple, 10), 10 ** 60 - 1))), True)
        self.assertIs(does_fit_clients((("call", 0, 10 ** 60 - 1, GET),)), False)

    def test_names(self):
        self.assertEqual(does_fit_clients.__module__, module.__name__)


if __name__ == "__main__":
    unittest.main()
