import copy
import itertools
import unittest

from account import Account, check_world
from drawing import Drawn, drawn_world
from halvesmeet.base.values import is_circle, ordered
from halvesmeet.errors import InvalidCircle, InvalidDeed, InvalidEvent, InvalidNumber, InvalidOperation, InvalidWorld, Refused, TooMany
from halvesmeet.house.houses import House
from halvesmeet.house.memory import RULES
from halvesmeet.judge.guards import broken_run, world_of_run
from halvesmeet.judge.sound import is_sound
from halvesmeet.net.letters import receiver
from halvesmeet.store.deeds import is_deed
from halvesmeet.world.calm import calm, driver_of
from halvesmeet.world.worlds import MAX_EVENTS, MAX_FOLD, World, is_event, is_one_row
from support import Parameter, check_errors, kind_of_error, nested, number_from, odd_values, own_objects, shown

THREE = (0, 1, 2)
PUT, GET = ("put", "a", 5), ("get", "a")
EVENTS = (("take", 3), ("lose", 0), ("double", 7), ("beat", 8), ("sync", 0), ("fall", 2, ()), ("fall", 2, (0, 3, 9)), ("rise", 4),
          ("call", 4, PUT), ("again", 0, 8), ("leave", 2))


def forms_near(event):
    """Values that are like an event, but none of this form."""
    for at in range(len(event)):
        yield event[:at] + event[at + 1:]
        yield event[:at] + (event[at],) * 2 + event[at + 1:]
        for other in (None, True, False, -1, "a", "", (), (0,), [0], (True,), (-1,), (1, 0), (0, 0), ("get", "A"), ("get",), 10 ** 60, 9, State):
            yield event[:at] + (other,) + event[at + 1:]
    yield list(event)
    yield event + (None,)


class State:
    """A class, as a value that is none of any form."""


def plain_is_event(value):
    """A plain account of the forms of events."""
    house, client, index = number_from(0, 8), number_from(0, 4), number_from(0)
    kept = lambda told: type(told) is tuple and all(map(index, told)) and all(one < other for one, other in zip(told, told[1:]))
    forms = {"take": [index], "lose": [index], "double": [index], "beat": [house], "sync": [house], "rise": [house],
             "fall": [house, kept], "call": [client, is_deed], "again": [client, house], "leave": [client]}
    if type(value) is not tuple or not value or not isinstance(value[0], str) or value[0] not in forms:
        return False
    form = forms[value[0]]
    return len(value) == len(form) + 1 and all(is_right(member) for is_right, member in zip(form, value[1:]))


class FormTest(unittest.TestCase):
    def test_forms(self):
        for event in EVENTS:
            self.assertIs(is_event(event), True)
            for other in forms_near(event):
                self.assertIs(is_event(other), plain_is_event(other), other)
            for word in ("takes", "Take", "", "rest", None):
                self.assertIs(is_event((word,) + event[1:]), False)

    def test_bounds(self):
        right = [("take", 10 ** 60 - 1), ("beat", 0), ("fall", 8, tuple(range(400))), ("again", 4, 0), ("call", 0, ("circle", (8,)))]
        wrong = [("take", 10 ** 60), ("take", -1), ("beat", 9), ("fall", 9, ()), ("fall", 0, (1, 1)), ("fall", 0, [0]), ("again", 5, 0),
                 ("again", 0, 9), ("call", 5, GET), ("call", 0, GET, 1), ("leave", 5), ("leave",), ("rise", None), ()]
        self.assertEqual([is_event(value) for value in right + wrong], [True] * 5 + [False] * len(wrong))

    def test_odd_values(self):
        for value in odd_values() + own_objects() + [nested(tuple, 16)]:
            self.assertIs(is_event(value), plain_is_event(value), value)


def candidates(world, deeds=(GET, PUT)):
    """Events of all forms, on both sides of what can be next."""
    many = len(world.bag)
    for word in ("take", "lose", "double"):
        for index in sorted({0, 1, many - 1, many, many + 1} - {-1}):
            yield word, index
    for number in range(9):
        yield "beat", number
        yield "sync", number
        yield "rise", number
        puts = 0 if world.houses[number] is None else len(world.houses[number].book.disk.waiting)
        for kept in ((), (0,), tuple(range(puts)), tuple(range(puts + 1)), (puts,), tuple(range(1, puts))):
            yield "fall", number, kept
    for client in range(5):
        yield "leave", client
        for deed in deeds:
            yield "call", client, deed
        for house in range(9):
            yield "again", client, house


def plain_can_be(world, event):
    """A plain account of which events can be next."""
    word = event[0]
    if word in ("take", "lose", "double"):
        return event[1] < len(world.bag)
    if word == "rise":
        return world.houses[event[1]] is None
    if word in ("beat", "sync"):
        return world.houses[event[1]] is not None
    if word == "fall":
        house = world.houses[event[1]]
        return house is not None and all(at < len(house.book.disk.waiting) for at in event[2])
    if event[1] >= len(world.clients):
        return False
    return (world.clients[event[1]].open_call is None) == (word == "call")


class BeginTest(unittest.TestCase):
    def test_at_first(self):
        for circle in ((4,), (0, 1), THREE, (2, 5, 6, 8), (0, 1, 2, 3, 4), (1, 2, 3, 4, 5, 6), tuple(range(2, 9))):
            for clients in range(1, 6):
                world = World(circle, clients, fold=clients)
                self.assertEqual(world.houses, {n: House.fresh(n, circle if n in circle else None, fold=clients) for n in range(9)})
                check_world(self, world, Account(circle, clients, clients))
                self.assertEqual((len(world), world.events, len(world.bag), world.fold, world.circle, world.without),
                                 (0, (), 0, clients, circle, None))
                self.assertEqual(str(world), f"world of {len(circle)} houses, 0 events, 0 letters")
                self.assertIs(is_one_row(world), True)

    def test_constants(self):
        self.assertEqual((MAX_EVENTS, MAX_FOLD), (3000, 12))

    def test_errors(self):
        circle = Parameter(THREE, is_circle, InvalidCircle)
        clients = Parameter(1, number_from(1, 5), InvalidNumber)
        fold = Parameter(6, number_from(1, 12), InvalidNumber, "fold")
        without = Parameter(None, lambda value: value is None or (isinstance(value, str) and value in RULES), InvalidOperation, "without")
        check_errors(self, World, [circle, clients, fold, without])
        for many, error in ((0, (InvalidNumber, 0)), (1, None), (5, None), (6, (InvalidNumber, 6)), (True, (InvalidNumber, True))):
            self.assertEqual(kind_of_error(World, [THREE, many]), error)
        for many, error in ((0, (InvalidNumber, 0)), (1, None), (12, None), (13, (InvalidNumber, 13))):
            self.assertEqual(kind_of_error(World, [THREE, 1], {"fold": many}), error)
        # as the keywords stand, not as they are passed
        self.assertEqual(kind_of_error(World, [THREE, 1], {"without": "halves", "fold": 13}), (InvalidNumber, 13))
        self.assertEqual(kind_of_error(World, [THREE, 1], {"without": "halves"}), (InvalidOperation, None))


class EventTest(unittest.TestCase):
    def test_drawn_runs(self):
        kinds = {}
        for seed in range(24):
            drawn = Drawn(seed, is_wild=None if seed % 3 else True)
            world = drawn.world
            account = Account(world.circle, len(world.clients), world.fold)
            for later in drawn.worlds(220):
                account.do(later.events[-1])
                check_world(self, later, account)
                self.assertEqual(later.events[:-1], world.events)
                self.assertEqual(len(later), len(world) + 1)
                self.check_rest(world, later)
                kinds[later.events[-1][0]] = kinds.get(later.events[-1][0], 0) + 1
                world = later
        self.assertEqual(set(kinds), {event[0] for event in EVENTS})
        self.assertGreater(min(kinds.values()), 15)

    def check_rest(self, world, later):
        """All that an event is not about stays as it was, to the very object."""
        event = later.events[-1]
        house, client = None, None
        if event[0] in ("beat", "sync", "fall", "rise"):
            house = event[1]
        elif event[0] in ("call", "again", "leave"):
            client = event[1]
        elif event[0] == "take":
            kind, number = receiver(world.bag.letters[event[1]])
            house, client = (number, None) if kind == "house" else (None, number)
        for number in range(9):
            if number != house:
                self.assertIs(later.houses[number], world.houses[number])
        for number, told in enumerate(world.clients):
            if number != client:
                self.assertIs(later.clients[number], told)

    def test_what_can_be_next(self):
        both = {True: 0, False: 0}
        for seed in range(10):
            for world in itertools.islice(Drawn(seed, clients=3).worlds(160), 3, None, 8):
                for event in candidates(world):
                    told = plain_can_be(world, event)
                    both[told] += 1
                    self.assertIs(world.can_be(event), told, event)
                    if not told:
                        self.assertEqual(kind_of_error(world.done, [event]), (Refused, ("next", event)))
        self.assertGreater(min(both.values()), 3000)

    def test_events_one_by_one(self):
        world = World(THREE, 2)
        called = world.done(("call", 1, PUT))
        self.assertEqual(called.bag.letters, (("deed", 1, 0, 1, PUT),))
        self.assertEqual(called.history, (("call", 1, 1, PUT),))
        again = called.done(("again", 1, 7))
        self.assertEqual((again.bag.letters[1], again.clients[1].asks, again.history), (("deed", 1, 7, 1, PUT), 0, called.history))
        left = again.done(("leave", 1))
        self.assertEqual((left.clients[1].open_call, left.history, left.bag), (None, called.history, again.bag))
        # doubled, and lost
        self.assertEqual(again.done(("double", 0)).bag.letters, again.bag.letters + again.bag.letters[:1])
        self.assertEqual(again.done(("lose", 0)).bag.letters, again.bag.letters[1:])
        # to a house that is down, and to one without an epoch
        fallen = called.done(("fall", 0, ()))
        self.assertEqual((fallen.houses[0], fallen.disks[0]), (None, called.houses[0].book.disk))
        self.assertEqual(fallen.done(("take", 0)).bag.letters, ())
        self.assertEqual(fallen.done(("take", 0)).houses, fallen.houses)
        self.assertEqual(again.done(("take", 1)).houses[7], world.houses[7])
        risen = fallen.done(("rise", 0))
        self.assertEqual((risen.houses[0].facts, risen.disks), (called.houses[0].facts, called.disks))
        self.assertEqual(risen.houses[0], House.risen(0, called.disks[0]))
        # a house that holds letters, and lets them go
        asks = world.run((("beat", 0),) * 3)
        self.assertEqual((len(asks.houses[0].held), len(asks.bag)), (3, 0))
        self.assertEqual(asks.done(("sync", 0)).bag.letters, asks.houses[0].held)

    def test_an_answer(self):
        world = World((4,), 2).done(("call", 1, PUT)).done(("lose", 0))
        world = world.run((("beat", 4),) * 3 + (("sync", 4), ("take", 0), ("sync", 4), ("take", 0), ("sync", 4), ("take", 0)))
        world = world.run((("again", 1, 4), ("take", 0), ("sync", 4), ("take", 0)))
        self.assertEqual((world.decided, world.answers), (((0, (1, 1, PUT)),), ()))
        world = world.done(("sync", 4))
        self.assertEqual(world.answers, ((1, 1, ("was", None), 1),))
        doubled = world.done(("double", 0)).done(("take", 0))
        self.assertEqual(doubled.history, (("call", 1, 1, PUT), ("answer", 1, 1, ("was", None), 1)))
        # the second one closes nothing
        again = doubled.done(("take", 0))
        self.assertEqual((again.history, again.clients, again.answers), (doubled.history, doubled.clients, world.answers))
        self.assertEqual(world.rows, {(0, 0): ((1, 1, PUT),)})
        self.assertEqual((world.firsts, world.votes, world.promises), ({(0, 0): 0}, {(0, 0, 4): 1}, {(0, 4): 0}))

    def test_a_world_stays_as_it_was(self):
        drawn = Drawn(5)
        for world in itertools.islice(drawn.worlds(150), 0, None, 10):
            before = shown(world)
            for event in world.choices(deeds=(PUT,))[::5]:
                world.done(event)
            for name in ("houses", "disks", "begins", "circles", "rows", "firsts", "votes", "promises"):
                getattr(world, name).clear()
            self.assertEqual(shown(world), before)

    def test_the_same_events(self):
        for seed in range(6):
            drawn = Drawn(seed)
            first = drawn.world
            last = drawn.run(200)
            again = first.run(last.events)
            self.assertEqual(again, last)
            self.assertEqual(shown(again), shown(last))
            self.assertEqual(first.run(last.events[:90]).run(last.events[90:]), last)

    def test_many_events(self):
        world = World(THREE, 1)
        events = (("beat", 8),) * 2999
        world = world.run(events)
        self.assertTrue(world.can_be(("beat", 8)))
        full = world.done(("beat", 8))
        self.assertEqual((len(full), full.events), (3000, events + (("beat", 8),)))
        self.assertTrue(full.can_be(("beat", 8)))
        self.assertIn(("beat", 8), full.choices())
        self.assertEqual(kind_of_error(full.done, [("beat", 8)]), (TooMany, 3000))
        self.assertEqual(kind_of_error(full.run, [(("beat", 8),)]), (TooMany, 3000))
        self.assertEqual(kind_of_error(full.run, [()]), None)
        self.assertEqual(kind_of_error(world.run, [(("beat", 8),) * 2]), (TooMany, 3000))
        # what cannot be next comes ahead of too many events, what is no event ahead of both
        self.assertEqual(kind_of_error(full.done, [("take", 0)]), (Refused, ("next", ("take", 0))))
        self.assertEqual(kind_of_error(full.done, [("take",)]), (InvalidEvent, None))
        self.assertEqual(kind_of_error(world.run, [(("beat", 8), ("beat", 8), ("take",))]), (InvalidEvent, None))
        self.assertEqual(kind_of_error(world.run, [(("beat", 8), ("rise", 8))]), (Refused, ("next", ("rise", 8))))

    def test_errors(self):
        world = World(THREE, 1)
        event = Parameter(("beat", 0), is_event, InvalidEvent)
        check_errors(self, world.can_be, [event])
        is_right = lambda value: type(value) is tuple and all(map(is_event, value))
        check_errors(self, world.run, [Parameter((("beat", 0),), is_right, InvalidEvent)])
        check_errors(self, world.done, [event])
        check_errors(self, is_one_row, [Parameter(world, lambda value: isinstance(value, World), InvalidWorld)])


class ChoicesTest(unittest.TestCase):
    def test_against_what_can_be_next(self):
        for seed in range(8):
            for world in itertools.islice(Drawn(seed, clients=2).worlds(150), 0, None, 9):
                for deeds in ((), (PUT,), (GET, PUT, GET)):
                    self.check(world, deeds)

    def check(self, world, deeds):
        wished = set()
        for index in range(len(world.bag)):
            wished |= {("take", index), ("lose", index), ("double", index)}
        for number, house in world.houses.items():
            if house is None:
                wished.add(("rise", number))
                continue
            puts = tuple(range(len(house.book.disk.waiting)))
            wished |= {("beat", number), ("sync", number), ("fall", number, ()), ("fall", number, puts)}
            wished |= {("fall", number, (at,)) for at in puts} | {("fall", number, puts[:at] + puts[at + 1:]) for at in puts}
        for client in world.clients:
            if client.open_call is None:
                wished |= {("call", client.number, deed) for deed in deeds}
            else:
                wished.add(("leave", client.number))
                wished |= {("again", client.number, number) for number, house in world.houses.items()
                           if house is not None and house.facts is not None}
        found = world.choices(deeds=deeds)
        self.assertEqual(found, ordered(tuple(wished)))
        self.assertEqual(len(found), len(wished))
        for event in found:
            self.assertTrue(world.can_be(event))

    def test_small_worlds(self):
        world = World((3,), 1)
        beats = tuple(("beat", number) for number in range(9))
        falls = tuple(("fall", number, ()) for number in range(9))
        syncs = tuple(("sync", number) for number in range(9))
        self.assertEqual(world.choices(), beats + falls + syncs)
        self.assertEqual(world.choices(deeds=(PUT, GET)), beats + (("call", 0, GET), ("call", 0, PUT)) + falls + syncs)
        called = world.done(("call", 0, PUT))
        self.assertEqual([event for event in called.choices() if event[0] in ("again", "leave", "take", "lose", "double", "call")],
                         [("again", 0, 3), ("double", 0), ("leave", 0), ("lose", 0), ("take", 0)])
        fallen = called.done(("fall", 3, ()))
        self.assertEqual([event for event in fallen.choices() if event[1] == 3], [("rise", 3)])
        self.assertEqual([event for event in fallen.choices() if event[0] == "again"], [])

    def test_several_waiting_puts(self):
        circle, clients, fold, events = broken_run("life")
        at = [event[0] for event in events].index("fall")
        world = World(circle, clients, fold=fold).run(events[:at])
        self.assertEqual(len(world.houses[1].book.disk.waiting), 3)
        self.assertEqual([event[2] for event in world.choices() if event[:2] == ("fall", 1)],
                         [(), (0,), (0, 1), (0, 1, 2), (0, 2), (1,), (1, 2), (2,)])

    def test_errors(self):
        world = World(THREE, 1)
        is_right = lambda value: type(value) is tuple and len(value) <= 12 and all(map(is_deed, value))
        check_errors(self, world.choices, [Parameter((GET,), is_right, InvalidDeed, "deeds")])
        twelve = tuple(("put", "a", number) for number in range(12))
        self.assertEqual(len([event for event in world.choices(deeds=twelve) if event[0] == "call"]), 12)
        self.assertEqual(kind_of_error(world.choices, [], {"deeds": twelve + (GET,)}), (InvalidDeed, None))
        self.assertEqual(kind_of_error(world.choices, [], {"deeds": (GET,) * 12}), None)
        self.assertEqual(kind_of_error(world.choices, [], {"deeds": (GET,) * 13}), (InvalidDeed, None))


class EqualTest(unittest.TestCase):
    def test_equal_ones(self):
        world = World(THREE, 2).run((("call", 0, PUT), ("call", 1, GET)))
        # other events behind which all is alike
        there = world.run((("double", 1), ("lose", 2)))
        self.assertEqual(there, world)
        self.assertEqual((len(there), len(world)), (4, 2))
        self.assertEqual(str(there), "world of 3 houses, 4 events, 2 letters")
        self.assertEqual(World(THREE, 2).run((("fall", 3, ()), ("rise", 3))), World(THREE, 2))
        others = [World(THREE, 2), World(THREE, 3).run(world.events), World((0, 1), 2).run(world.events), World(THREE, 2, fold=5).run(world.events),
                  World(THREE, 2, without="half").run(world.events), world.done(("beat", 0)), world.done(("lose", 0)), world.done(("double", 0)),
                  world.done(("fall", 8, ())), world.done(("leave", 0)), world.done(("again", 0, 1)), world.done(("again", 0, 0)),
                  World(THREE, 2).run((("call", 1, GET), ("call", 0, PUT)))]
        for other in others + odd_values() + own_objects():
            self.assertFalse(world == other)
            self.assertTrue(world != other)

    def test_the_record_counts(self):
        # all lies as it did, but an answer has gone
        world = World((4,), 1).done(("call", 0, PUT)).done(("lose", 0))
        world = world.run((("beat", 4),) * 3 + (("sync", 4), ("take", 0), ("sync", 4), ("take", 0), ("sync", 4), ("take", 0)))
        world = world.run((("again", 0, 4), ("take", 0), ("sync", 4), ("take", 0)))
        gone = world.run((("sync", 4), ("lose", 0)))
        kept = world.run((("sync", 4),))
        self.assertNotEqual(gone, world)
        self.assertNotEqual(gone, kept)
        self.assertEqual(gone.answers, kept.answers)
        for name in ("decided", "begins", "circles", "rows", "firsts", "votes", "promises", "answers"):
            other = copy.copy(gone)
            other._parts = {**gone._parts, name: {}}
            self.assertNotEqual(other, gone, name)

    def test_the_settings_count(self):
        # also if all houses are down
        falls = tuple(("fall", number, ()) for number in range(9))
        down = World(THREE, 1).run(falls)
        self.assertEqual(down, World(THREE, 1).run(falls[::-1]))
        for other in (World(THREE, 1, fold=5), World(THREE, 1, without="half")):
            self.assertNotEqual(other.run(falls), down)

    def test_texts(self):
        world = drawn_world(3, 60)
        self.assertEqual(str(world), f"world of {len(world.circle)} houses, 60 events, {len(world.bag)} letters")


class NotTrueTest(unittest.TestCase):
    def test_the_sequence_of_two_letters(self):
        # two asks for unlike terms: the greater one ahead of the other one bars it
        world = World(THREE, 1).run((("beat", 0),) * 3 + (("beat", 1),) * 4 + (("sync", 0), ("sync", 1)))
        one, other = [index for index in world.bag.to_house(2)]
        straight = world.run((("take", one), ("take", other - 1)))
        turned = world.run((("take", other), ("take", one)))
        self.assertEqual([letter[0] for letter in straight.houses[2].held], ["grant", "grant"])
        self.assertEqual([letter[0] for letter in turned.houses[2].held], ["grant", "bar"])

    def test_a_letter_taken_twice(self):
        world = World(THREE, 1).run((("beat", 0),) * 3 + (("sync", 0),))
        at = world.bag.to_house(1)[0]
        once = world.done(("take", at))
        twice = world.run((("double", at), ("take", len(world.bag)), ("take", at)))
        self.assertEqual(once.bag, twice.bag)
        self.assertEqual((len(once.houses[1].held), len(twice.houses[1].held)), (1, 2))


class RulesTest(unittest.TestCase):
    def test_the_houses_have_the_settings(self):
        for rule in (None,) + RULES:
            world = drawn_world(4, 80, without=rule, fold=3, clients=2)
            self.assertEqual((world.without, world.fold), (rule, 3))
            self.assertEqual({(house.without, house.fold) for house in world.houses.values() if house is not None}, {(rule, 3)})

    def test_drawn_runs(self):
        for rule in RULES:
            for seed in (1, 2, 3):
                drawn = Drawn(seed, without=rule)
                account = Account(drawn.world.circle, len(drawn.world.clients), drawn.world.fold, rule)
                for world in drawn.worlds(120):
                    account.do(world.events[-1])
                    check_world(self, world, account)

    def test_sync(self):
        world = World(THREE, 1, without="sync").run((("beat", 0),) * 3)
        self.assertEqual((world.houses[0].held, len(world.bag)), ((), 3))
        granted = world.done(("take", 0))
        self.assertEqual(granted.houses[0].pending, ((("promise", 0),),))
        self.assertEqual([letter[0] for letter in granted.bag], ["ask", "ask", "grant"])
        self.assertEqual(granted.promises, {})
        # what was not synced is lost, though its letters went
        self.assertEqual(granted.done(("fall", 0, ())).done(("rise", 0)).houses[0].facts.promised, -1)
        self.assertEqual(granted.done(("fall", 0, (0,))).promises, {(0, 0): 0})
        self.assertEqual(granted.done(("sync", 0)).promises, {(0, 0): 0})
        # with the rule they are held
        self.assertEqual(len(World(THREE, 1).run((("beat", 0),) * 3).bag), 0)


class RecordTest(unittest.TestCase):
    def test_nothing_leaves_it(self):
        many = {"epochs": 0, "bases": 0, "falls": 0}
        for seed in range(30, 42):
            drawn = Drawn(seed, fold=(1, 2, 6)[seed % 3], stops=0.3, is_wild=None if seed % 2 else False)
            world = drawn.world
            for later in drawn.worlds(350):
                self.check_growth(world, later)
                world = later
            many["epochs"] += max(world.begins)
            many["falls"] += len([event for event in world.events if event[0] == "fall"])
            many["bases"] += len([1 for house in world.houses.values() if house and house.facts and house.facts.base.length > 0])
        self.assertGreater(min(many.values()), 5, many)

    def check_growth(self, world, later):
        self.assertLessEqual(set(world.decided), set(later.decided))
        self.assertLessEqual(set(world.answers), set(later.answers))
        for name in ("begins", "circles", "firsts"):
            self.assertEqual({key: getattr(later, name)[key] for key in getattr(world, name)}, getattr(world, name))
        for key, row in world.rows.items():
            self.assertEqual(later.rows[key][:len(row)], row)
        for name in ("votes", "promises"):
            for key, number in getattr(world, name).items():
                self.assertGreaterEqual(getattr(later, name)[key], number)

    def test_one_row(self):
        world = World(THREE, 1)
        self.assertIs(is_one_row(world), True)
        for seed in range(8):
            world = drawn_world(seed, 300)
            indices = [index for index, _ in world.decided]
            self.assertIs(is_one_row(world), indices == list(range(len(indices))))
            self.assertTrue(is_one_row(world))

    def test_not_one_row(self):
        for rule in RULES:
            world = world_of_run(broken_run(rule), without=rule)
            self.assertIs(is_one_row(world), rule == "round")
        entry = (0, 1, PUT)
        for table, told in (({}, True), ({0: (entry,)}, True), ({1: (entry,)}, False), ({0: (entry,), 2: (entry,)}, False),
                            ({0: (entry, (1, 1, PUT))}, False), ({0: (entry,), 1: (entry,)}, True)):
            world = copy.copy(World(THREE, 1))
            world._parts = {**world._parts, "decided": table}
            self.assertIs(is_one_row(world), told)
            self.assertEqual(world.decided, tuple((index, told) for index in table for told in table[index]))

    def test_a_late_beginner(self):
        # a house that begins an epoch later than others, with a longer base
        world = World(THREE, 1, fold=1).done(("call", 0, ("circle", (0, 1, 2, 3))))
        world = world.run(calm(world, THREE))
        for number in range(4):
            world = world.done(("call", 0, ("put", "a", number)))
            world = world.run(calm(world, THREE))
        self.assertEqual((world.begins, world.houses[3].facts), ({0: 0, 1: 1}, None))
        while world.houses[3].facts is None:
            leader = driver_of(world, THREE)
            world = world.run((("beat", leader), ("sync", leader)))
            carried = [index for index in world.bag.to_house(3) if world.bag.letters[index][0] == "carry"]
            world = world.done(("take", carried[-1]))
        self.assertGreater(world.houses[3].facts.base.length, 3)
        self.assertEqual((world.begins, world.circles), ({0: 0, 1: 1}, {0: THREE, 1: (0, 1, 2, 3)}))
        self.assertIs(is_sound(world), True)
        # it promises what its carrier did, as soon as it is synced
        self.assertNotIn((1, 3), world.promises)
        world = world.done(("sync", 3))
        self.assertEqual(world.promises[1, 3], world.houses[3].facts.promised)
        self.assertIs(is_sound(world), True)

    def test_a_term_that_is_led_twice(self):
        # without "sync" a house forgets that it has led a term
        world = World((4,), 1, without="sync").run((("beat", 4),) * 3 + (("take", 0), ("take", 0)))
        self.assertEqual((world.houses[4].role, world.rows, world.firsts), ("leads", {(0, 0): ()}, {(0, 0): 0}))
        world = world.run((("call", 0, PUT), ("take", 1)))
        self.assertEqual(world.rows, {(0, 0): ((0, 1, PUT),)})
        world = world.run((("fall", 4, ()), ("rise", 4)) + (("lose", 0),) * len(world.bag) + (("beat", 4),) * 3 + (("take", 0), ("take", 0)))
        self.assertEqual((world.houses[4].role, world.houses[4].facts.entries), ("leads", ()))
        self.assertEqual((world.rows, world.firsts), ({(0, 0): ((0, 1, PUT),)}, {(0, 0): 0}))

    def test_left_out_entries(self):
        # a house that leads again, and has folded all that was decided
        drawn = Drawn(0, circle=(4,), clients=1, fold=1)
        world = drawn.run(0)
        for number in range(6):
            world = world.done(("call", 0, ("put", "a", number)))
            while world.clients[0].open_call is not None:
                if len(world.bag) == 0:
                    world = world.run((("beat", 4), ("sync", 4), ("again", 0, 4)))
                else:
                    world = world.run((("take", 0), ("sync", 4)))
        before = world
        world = world.run((("fall", 4, ()), ("rise", 4)))
        self.assertGreater(world.houses[4].facts.base.length, 3)
        while world.houses[4].role != "leads":
            world = world.run((("beat", 4), ("sync", 4)) if len(world.bag) == 0 else (("take", 0), ("sync", 4)))
        last = max(world.rows)
        self.assertGreater(last, max(before.rows))
        self.assertEqual(world.rows[last], tuple(entry for _, entry in world.decided))
        self.assertEqual(world.firsts[last], 6)


if __name__ == "__main__":
    unittest.main()
