import random
import unittest

from drawing import Drawn, drawn_world
from halvesmeet.errors import InvalidEvent, InvalidOperation, InvalidWorld, Refused, TooMany
from halvesmeet.house.asking import PATIENCE
from halvesmeet.judge.guards import broken_run, world_of_run
from halvesmeet.judge.orders import is_order, order_paper
from halvesmeet.judge.sound import is_sound
from halvesmeet.net.letters import receiver
from halvesmeet.world.calm import CALM_MORE, calm, calm_bound, driver_of, epoch_of, is_calm, rounds_of
from halvesmeet.world.worlds import World, is_event
from support import Parameter, check_errors, kind_of_error, odd_values, own_objects, shown

THREE = (0, 1, 2)
PUT, GET = ("put", "a", 7), ("get", "a")
ALL = tuple(range(9))
WORLD = Parameter(World(THREE, 1), lambda value: isinstance(value, World), InvalidWorld)


def is_lot(value):
    return type(value) is tuple and 1 <= len(value) <= 9 and all(type(house) is int and 0 <= house <= 8 for house in value) \
        and all(one < other for one, other in zip(value, value[1:]))


LOT = Parameter(THREE, is_lot, InvalidOperation)


class Lacks(Exception):
    """A calm that lacks an epoch."""


def plain_driver(world, lot):
    """A plain account of the driver."""
    ready = [world.houses[number] for number in lot if world.houses[number] is not None and world.houses[number].facts is not None]
    newest = [house for house in ready if house.facts.epoch == max(other.facts.epoch for other in ready)]
    for role in ("over", "leads", "hears", "asks"):
        told = [house for house in newest if house.role == role or role in ("hears", "asks")]
        if told and role == "leads":
            return max(told, key=lambda house: house.memory.term).number
        if told:
            return min(house.number for house in told)
    return None


def plain_epoch(world, lot):
    driver = plain_driver(world, lot)
    if driver is None:
        return None
    house = world.houses[driver]
    if house.role == "over":
        return house.facts.epoch + 1, house.memory.state.next
    return house.facts.epoch, house.facts.circle


def is_open(world):
    return any(client.open_call is not None for client in world.clients)


def plain_calm(world, lot):
    """A plain account of the calm, event by event."""
    events = []

    def do(event):
        nonlocal world
        world = world.done(event)
        events.append(event)

    def sync(number):
        if world.houses[number].held or world.houses[number].pending:
            do(("sync", number))

    if not is_open(world):
        return ()
    for _ in range(len(world.bag)):
        do(("lose", 0))
    for number in lot:
        if world.houses[number] is None:
            do(("rise", number))
    while is_open(world):
        told = plain_epoch(world, lot)
        if told is None or 2 * len(set(told[1]) & set(lot)) <= len(told[1]):
            raise Lacks(-1 if told is None else told[0])
        driver = plain_driver(world, lot)
        do(("beat", driver))
        sync(driver)
        if world.houses[driver].role == "leads":
            for client in world.clients:
                if client.open_call is not None:
                    do(("again", client.number, driver))
        while len(world.bag) > 0:
            kind, number = receiver(world.bag.letters[0])
            if kind == "house" and number not in lot:
                do(("lose", 0))
            else:
                do(("take", 0))
                if kind == "house":
                    sync(number)
    return tuple(events)


def drawn_lots(chance, world):
    """Lots of all houses, of more than half of the last circle, of half of it, and others."""
    circle = world.circles[max(world.begins)]
    more = tuple(sorted(chance.sample(circle, len(circle) // 2 + 1)))
    yield ALL
    yield circle
    yield more
    yield tuple(sorted({*more, chance.randrange(9), chance.randrange(9)}))
    if len(circle) > 1:
        yield tuple(sorted(chance.sample(circle, len(circle) // 2)))
    yield tuple(sorted(chance.sample(range(9), chance.randint(1, 8))))


class CalmTest(unittest.TestCase):
    def check(self, world, lot):
        """Checks the calm against the plain account and what is promised of it; returns it, or the epoch that it lacks."""
        self.assertEqual(driver_of(world, lot), plain_driver(world, lot))
        self.assertEqual(epoch_of(world, lot), plain_epoch(world, lot))
        try:
            wished = plain_calm(world, lot)
        except Lacks as lacks:
            self.assertEqual(kind_of_error(calm, [world, lot]), (Refused, ("lacks", lacks.args[0])))
            self.assertIs(is_calm(world, lot, ()), False)
            return lacks.args[0]
        events = calm(world, lot)
        self.assertEqual(events, wished)
        later = world.run(events)
        self.assertFalse(is_open(later))
        self.assertLessEqual(rounds_of(events), calm_bound(world))
        self.assertTrue(is_order(later.history, order_paper(later)))
        return events

    def test_drawn_worlds(self):
        many = {"events": 0, "rounds": 0, "lacks": 0, "none": 0, "falls": 0, "epochs": 0}
        for seed in range(40):
            drawn = Drawn(seed, clients=1 + seed % 5, stops=0.15, is_wild=None if seed % 4 else True)
            for length in (40, 150, 260):
                world = drawn.run(length)
                for lot in drawn_lots(random.Random(seed), world):
                    before = shown(world)
                    told = self.check(world, lot)
                    self.assertEqual(shown(world), before)
                    if isinstance(told, int):
                        many["lacks"] += 1
                    else:
                        later = world.run(told)
                        many["events"] += len(told)
                        many["rounds"] += rounds_of(told)
                        many["none"] += told == ()
                        many["falls"] += len([event for event in told if event[0] == "rise"])
                        many["epochs"] += max(later.begins) - max(world.begins)
                        self.assertTrue(is_sound(later))
        self.assertGreater(min(many.values()), 5, many)
        self.assertGreater(many["events"], 5000)

    def test_full_bags(self):
        world = World(THREE, 2).run((("call", 0, PUT), ("call", 1, GET)) + (("again", 0, 1), ("double", 0)) * 250)
        self.assertEqual(len(world.bag), 400)
        events = self.check(world, THREE)
        self.assertEqual(events[:400], (("lose", 0),) * 400)
        self.assertEqual(world.run(events).history[2:], (("answer", 0, 1, ("was", None), 1), ("answer", 1, 1, ("is", 7), 1)))

    def test_stops(self):
        # an open stop: the calm is for the next epoch too, if the lot has enough of it
        for circle, lot in (((0, 1, 2), THREE), ((3, 4, 5), ALL), ((2, 3), (0, 1, 2, 3)), ((8,), (0, 1, 8))):
            world = World(THREE, 2).run((("call", 0, ("circle", circle)), ("call", 1, PUT)))
            events = self.check(world, lot)
            later = world.run(events)
            self.assertEqual(later.circles, {0: THREE, 1: circle})
            self.assertEqual(epoch_of(later, lot)[1], circle)
        # just an open stop is answered in its own epoch; the next calm lacks houses
        world = World(THREE, 2).done(("call", 0, ("circle", (3, 4, 5))))
        world = world.run(self.check(world, THREE)).done(("call", 1, PUT))
        self.assertEqual(self.check(world, THREE), 1)
        self.assertEqual(self.check(world, (0, 1, 2, 3)), 1)
        self.assertNotEqual(self.check(world, (0, 1, 2, 3, 4)), 1)
        # lacked ahead of a later round alone
        world = World(THREE, 2).run((("call", 0, ("circle", (3, 4, 5))), ("call", 1, PUT)))
        self.assertEqual(self.check(world, (0, 1, 2)), 1)

    def test_just_half(self):
        for circle in ((0, 1), (0, 1, 2, 3), (1, 3, 4, 5, 6, 8)):
            world = World(circle, 1).done(("call", 0, PUT))
            half = circle[::2]
            self.assertEqual(self.check(world, half), 0)
            more = tuple(sorted({*half, circle[1]}))
            self.assertNotEqual(self.check(world, more), 0)
        # no house with an epoch, and houses of the lot that are down
        world = World(THREE, 1).done(("call", 0, PUT))
        self.assertEqual(self.check(world, (3, 4, 5)), -1)
        down = world.run(tuple(("fall", number, ()) for number in range(9)))
        self.assertEqual(driver_of(down, ALL), None)
        self.assertEqual(self.check(down, (0, 2))[1:3], (("rise", 0), ("rise", 2)))
        self.assertEqual(self.check(down, (4,)), -1)

    def test_no_open_call(self):
        for world in (World(THREE, 1), World(THREE, 1).run((("call", 0, PUT), ("leave", 0)))):
            for lot in ((1,), THREE, (7, 8)):
                self.assertEqual(calm(world, lot), ())
                self.assertIs(is_calm(world, lot, ()), True)
                self.assertIs(is_calm(world, lot, (("beat", 0),)), False)

    def test_open_calls_stay_where_the_letters_are_lost(self):
        # a letter that goes to a house outside the lot is lost
        world = World(THREE, 1).done(("call", 0, PUT))
        events = self.check(world, (0, 1))
        self.assertIn(("lose", 0), events[1:])
        self.assertEqual(world.run(events).houses[2], world.houses[2])


class DriverTest(unittest.TestCase):
    def test_roles(self):
        # leads: of two that lead that of the greater term
        world = World(THREE, 1)
        world = self.leading(world, 0, (0, 1))
        self.assertEqual(driver_of(world, ALL), 0)
        world = self.leading(world, 2, (1, 2))
        self.assertEqual([world.houses[number].role for number in THREE], ["leads", "hears", "leads"])
        self.assertEqual([driver_of(world, lot) for lot in (ALL, (0, 1), (1,), (1, 2), (3, 4))], [2, 0, 1, 2, None])
        # otherwise the least one
        self.assertEqual(driver_of(World((1, 4), 1), ALL), 1)
        self.assertEqual(driver_of(World((1, 4), 1).done(("fall", 1, ())), ALL), 4)

    def leading(self, world, number, lot):
        while world.houses[number].role != "leads":
            if len(world.bag) == 0:
                world = world.done(("beat", number))
                if world.houses[number].held:
                    world = world.done(("sync", number))
            else:
                _, goal = receiver(world.bag.letters[0])
                world = world.run((("take", 0), ("sync", goal)) if goal in lot else (("lose", 0),))
        return world.run(tuple(("lose", 0) for _ in world.bag))

    def test_over(self):
        world = World(THREE, 1).done(("call", 0, ("circle", (3, 4))))
        for event in calm(world, THREE):
            if world.houses[0].memory.state.next is not None:
                break
            world = world.done(event)
        # 0 has decided the stop, but is over from its next event on alone
        self.assertEqual((world.houses[0].role, driver_of(world, THREE), epoch_of(world, THREE)), ("leads", 0, (0, THREE)))
        later = world.done(("beat", 0))
        self.assertEqual(later.houses[0].role, "over")
        self.assertEqual([driver_of(later, lot) for lot in (ALL, (1, 2), (3, 4))], [0, 1, None])
        self.assertEqual([epoch_of(later, lot) for lot in (ALL, (1, 2), (3, 4))], [(1, (3, 4)), (0, THREE), None])
        # a house of the next epoch comes ahead of one that is over
        later = later.done(("sync", 0))
        at = [index for index in later.bag.to_house(4) if later.bag.letters[index][0] == "carry"][0]
        later = later.done(("take", at))
        self.assertEqual((driver_of(later, ALL), epoch_of(later, ALL)), (4, (1, (3, 4))))

    def test_errors(self):
        for function in (driver_of, epoch_of, calm):
            check_errors(self, function, [WORLD, LOT])
        check_errors(self, calm_bound, [WORLD])
        for lot in ((0, 0), (1, 0), (), tuple(range(10)), (9,), (-1,), (True,), [0], 0, None):
            for function in (driver_of, epoch_of, calm):
                self.assertEqual(kind_of_error(function, [World(THREE, 1), lot]), (InvalidOperation, None))
                self.assertEqual(kind_of_error(function, [5, lot]), (InvalidWorld, None))
            self.assertEqual(kind_of_error(is_calm, [World(THREE, 1), lot, ()]), (InvalidOperation, None))
        self.assertEqual(kind_of_error(is_calm, [5, 5, 5]), (InvalidWorld, None))


class BoundTest(unittest.TestCase):
    def test_bound(self):
        self.assertEqual((CALM_MORE, PATIENCE), (10, 3))
        for clients in range(1, 6):
            self.assertEqual(calm_bound(World(THREE, clients)), (2 + clients) * 13)

    def test_rounds(self):
        events = (("beat", 0), ("sync", 0), ("beat", 3), ("take", 0))
        self.assertEqual([rounds_of(events[:many]) for many in range(5)], [0, 1, 1, 2, 2])
        is_right = lambda value: type(value) is tuple and all(map(is_event, value))
        check_errors(self, rounds_of, [Parameter(events, is_right, InvalidEvent)])

    def test_full_worlds(self):
        world = World((4,), 1).done(("call", 0, PUT)).done(("lose", 0))
        events = calm(world, (4,))
        for many, told in ((0, None), (-1, None), (1, (TooMany, 3000)), (5, (TooMany, 3000))):
            full = world.run((("sync", 8),) * (3000 - len(world) - len(events) + many))
            self.assertEqual(kind_of_error(calm, [full, (4,)]), told)
            self.assertIs(is_calm(full, (4,), events), told is None)
        full = world.run((("sync", 8),) * 2998)
        self.assertEqual(kind_of_error(calm, [full, (4,)]), (TooMany, 3000))
        # what it lacks comes first
        self.assertEqual(kind_of_error(calm, [full, (8,)]), (Refused, ("lacks", -1)))
        world = World((4, 5), 1).done(("call", 0, PUT)).run((("sync", 8),) * 2999)
        self.assertEqual(kind_of_error(calm, [world, (4,)]), (Refused, ("lacks", 0)))
        self.assertEqual(kind_of_error(calm, [world, (4, 5)]), (TooMany, 3000))
        done = World((4,), 1).run((("sync", 8),) * 3000)
        self.assertEqual(calm(done, (3,)), ())

    def test_without_an_end(self):
        # without a rule a calm can go on and on, with letters of one round, or with rounds
        circle, clients, fold, events = broken_run("whole")
        told = set()
        for many in range(60, 70):
            world = world_of_run((circle, clients, fold, events[:many]), without="whole")
            world = world if is_open(world) else world.done(("call", 0, PUT))
            told.add(kind_of_error(calm, [world, (0, 2)]))
            self.assertIs(is_calm(world, (0, 2), ()), False)
        self.assertEqual(told, {None, (TooMany, 3000)})


class PaperTest(unittest.TestCase):
    def test_just_the_calm(self):
        world = drawn_world(4, 120, circle=THREE, clients=2, is_wild=False)
        world = world if is_open(world) else world.done(("call", 0, GET))
        for lot in (ALL, THREE, (0, 2)):
            events = calm(world, lot)
            self.assertIs(is_calm(world, lot, events), True)
            for at in range(len(events)):
                for other in (events[:at] + events[at + 1:], events[:at] + (events[at],) + events[at:], events[:at] + (("beat", 7),) + events[at:],
                              events[:at] + (("double", 0),) + events[at + 1:]):
                    self.assertIs(is_calm(world, lot, other), False)
        for value in odd_values() + own_objects() + [list(events), events + (None,), events[0], None]:
            self.assertIs(is_calm(world, lot, value), False)
        self.assertIs(is_calm(world, (1,), events), False)

    def test_true_is_not_one(self):
        world = World((1,), 1).done(("call", 0, PUT))
        events = calm(world, (1,))
        self.assertEqual(events[1], ("beat", 1))
        self.assertIs(is_calm(world, (1,), events), True)
        self.assertIs(is_calm(world, (1,), events[:1] + (("beat", True),) + events[2:]), False)
        self.assertIs(is_calm(world, (1,), (("lose", False),) + events[1:]), False)

    def test_not_true(self):
        # the driver of the first round leads at the end
        world = World(THREE, 2).run((("call", 0, ("circle", (1, 2))), ("call", 1, PUT)))
        events = calm(world, THREE)
        first = driver_of(world, THREE)
        later = world.run(events)
        self.assertEqual(first, 0)
        self.assertNotEqual(later.houses[0].role, "leads")
        self.assertEqual(later.houses[driver_of(later, THREE)].role, "leads")


if __name__ == "__main__":
    unittest.main()
