import itertools
import unittest

from drawing import Drawn
from halvesmeet.base.values import is_circle
from halvesmeet.errors import InvalidOperation, Refused, UnknownName
from halvesmeet.house import memory
from halvesmeet.judge import guards
from halvesmeet.judge.guards import RULES, broken_run, is_broken_run, is_run, kept_part, what_breaks, world_of_run
from halvesmeet.judge.orders import history_paper, names
from halvesmeet.text.texts import tight
from halvesmeet.world.worlds import World, is_event, is_one_row
from support import Parameter, check_errors, kind_of_error, number_from, odd_values, own_objects, shown

ONE = ((0,), 1, 6, (("call", 0, ("get", "a")), ("lose", 0), ("lose", 0)))
EARLY = ((0, 1, 2), 1, 6, (("call", 0, ("get", "a")), ("take", 0)))


def plain_is_run(value):
    if type(value) is not tuple or len(value) != 4:
        return False
    circle, clients, fold, events = value
    return is_circle(circle) and number_from(1, 5)(clients) and number_from(1, 12)(fold) and type(events) is tuple \
        and len(events) <= 400 and all(map(is_event, events))


def plain_world(run, without=None):
    """The world behind a run, or the index of the first event that cannot be next."""
    circle, clients, fold, events = run
    world = World(circle, clients, fold=fold, without=without)
    for index, event in enumerate(events):
        if not world.can_be(event):
            return index
        world = world.done(event)
    return world


def plain_breaks(run, without=None):
    """A plain account of what breaks, None if the run cannot be done."""
    world = plain_world(run, without)
    if isinstance(world, int):
        return None
    indices = [index for index, _ in world.decided]
    twice = [index for index in indices if indices.count(index) > 1]
    if twice:
        return "rows", min(twice)
    if len(names(world.history)) <= 6 and history_paper(world.history)[0] == "table":
        return ("order",)
    return ("nothing",)


def events_near(run):
    """Runs with an event left out, doubled or exchanged with its neighbour."""
    circle, clients, fold, events = run
    for at in range(len(events)):
        yield circle, clients, fold, events[:at] + events[at + 1:]
        yield circle, clients, fold, events[:at] + (events[at],) + events[at:]
        yield circle, clients, fold, events[:at] + events[at:at + 2][::-1] + events[at + 2:]


class RunTest(unittest.TestCase):
    def test_forms(self):
        self.assertIs(is_run(ONE), True)
        for value in odd_values() + own_objects():
            self.assertIs(is_run(value), type(value) is tuple and value == ((0,), 1, 6, ()))
        for at in range(4):
            self.assertIs(is_run(ONE[:at] + ONE[at + 1:]), False)
            self.assertIs(is_run(ONE[:at] + (ONE[at],) * 2 + ONE[at + 1:]), False)
            for other in odd_values():
                value = ONE[:at] + (other,) + ONE[at + 1:]
                self.assertIs(is_run(value), plain_is_run(value), value)
        self.assertIs(is_run(list(ONE)), False)

    def test_bounds(self):
        for clients in range(-1, 8):
            self.assertIs(is_run(((0,), clients, 6, ())), 1 <= clients <= 5)
        for fold in range(-1, 15):
            self.assertIs(is_run(((0,), 1, fold, ())), 1 <= fold <= 12)
        for many in (0, 1, 399, 400, 401, 402):
            self.assertIs(is_run(((0,), 1, 6, (("beat", 0),) * many)), many <= 400)
        self.assertIs(is_run(((0,), 1, 6, (("beat", 9),))), False)
        self.assertIs(is_run(((0,), 1, 6, [("beat", 0)])), False)
        # whether it can be done or not
        self.assertIs(is_run(((0,), 1, 6, (("rise", 0), ("take", 77)))), True)

    def test_constants(self):
        self.assertEqual(RULES, ("sync", "life", "promise", "best", "whole", "half", "term", "round", "carry"))
        self.assertEqual(RULES, memory.RULES)

    def test_worlds(self):
        for rule in (None,) + RULES:
            for seed in range(4):
                drawn = Drawn(seed, without=rule)
                first = drawn.world
                world = drawn.run(120)
                run = (first.circle, len(first.clients), first.fold, world.events)
                self.assertEqual(world_of_run(run, without=rule), world)
                self.assertEqual(shown(world_of_run(run, without=rule)), shown(world))

    def test_errors(self):
        run = Parameter(EARLY, plain_is_run, InvalidOperation)
        without = Parameter(None, lambda value: value is None or (isinstance(value, str) and value in RULES), UnknownName, "without")
        for function in (world_of_run, what_breaks):
            for value in odd_values():
                if not plain_is_run(value):
                    self.assertEqual(kind_of_error(function, [value]), (InvalidOperation, None))
                    self.assertEqual(kind_of_error(function, [value], {"without": value}), (InvalidOperation, None))
                if not without.is_right(value):
                    self.assertEqual(kind_of_error(function, [EARLY], {"without": value}), (UnknownName, value))
                    # ahead of what cannot be next
                    self.assertEqual(kind_of_error(function, [ONE], {"without": value}), (UnknownName, value))
            self.assertEqual(kind_of_error(function, [ONE]), (Refused, ("next", 2)))
            self.assertEqual(kind_of_error(function, [ONE], {"without": "round"}), (Refused, ("next", 2)))
        check_errors(self, kept_part, [run])
        for function, args in ((broken_run, ()), (is_broken_run, (EARLY,))):
            for value in odd_values() + [None, "halves", "Sync", ("sync",)]:
                if not (isinstance(value, str) and value in RULES):
                    self.assertEqual(kind_of_error(function, [value, *args]), (UnknownName, value))
        self.assertEqual(kind_of_error(is_broken_run, ["none", 5]), (UnknownName, "none"))


class BrokenTest(unittest.TestCase):
    def test_told_runs(self):
        for rule in RULES:
            run = broken_run(rule)
            self.assertTrue(plain_is_run(run))
            self.assertIs(is_broken_run(rule, run), True)
            self.assertEqual(what_breaks(run, without=rule), plain_breaks(run, rule))
            self.assertNotEqual(what_breaks(run, without=rule), ("nothing",))
            # with all rules nothing breaks, in that part of it that can be next
            self.assertEqual(what_breaks(kept_part(run)), ("nothing",))
            self.assertTrue(is_one_row(world_of_run(kept_part(run))))

    def test_told_runs_are_tight(self):
        for rule in RULES:
            run = broken_run(rule)
            breaks = lambda world: not is_one_row(world) or history_paper(world.history)[0] == "table"
            self.assertEqual(tight(world_of_run(run, without=rule), breaks), run[3])

    def test_what_is_broken(self):
        told = {rule: what_breaks(broken_run(rule), without=rule)[0] for rule in RULES}
        self.assertEqual(told, {**{rule: "rows" for rule in RULES}, "round": "order"})

    def test_runs_near_them(self):
        many = {True: 0, False: 0}
        for rule in RULES:
            for run in itertools.islice(events_near(broken_run(rule)), 0, None, 7):
                breaks = plain_breaks(run, rule)
                is_broken = breaks not in (None, ("nothing",))
                many[is_broken] += 1
                self.assertIs(is_broken_run(rule, run), is_broken)
                if breaks is None:
                    self.assertEqual(kind_of_error(what_breaks, [run], {"without": rule}), (Refused, ("next", plain_world(run, rule))))
                else:
                    self.assertEqual(what_breaks(run, without=rule), breaks)
        self.assertGreater(min(many.values()), 20, many)

    def test_values_that_are_none(self):
        for rule in RULES:
            for value in odd_values() + own_objects() + [list(broken_run(rule)), broken_run(rule)[:3], broken_run(rule)[3], EARLY, ONE]:
                self.assertIs(is_broken_run(rule, value), False)

    def test_seven_calls(self):
        # a history that has no order, but is too long to say so
        circle, clients, fold, events = broken_run("round")
        world = world_of_run(broken_run("round"), without="round")
        more = ()
        while len(names(world.run(more).history)) < 6:
            open_calls = [client.number for client in world.run(more).clients if client.open_call is not None]
            more += (("leave", open_calls[0]),) if open_calls else (("call", 0, ("get", "b")),)
        six = (circle, clients, fold, events + more)
        self.assertEqual(what_breaks(six, without="round"), ("order",))
        self.assertIs(is_broken_run("round", six), True)
        seven = (circle, clients, fold, six[3] + (("leave", 0), ("call", 0, ("get", "b"))))
        self.assertEqual(what_breaks(seven, without="round"), ("nothing",))
        self.assertIs(is_broken_run("round", seven), False)
        # two entries in one place are told, however long the history is
        run = broken_run("half")
        world = world_of_run(run, without="half")
        events = run[3]
        for _ in range(8):
            events += (("leave", 0),) if plain_world(run[:3] + (events,), "half").clients[0].open_call is not None else ()
            events += (("call", 0, ("get", "b")),)
        self.assertEqual(what_breaks(run[:3] + (events,), without="half"), ("rows", 0))
        self.assertIs(is_broken_run("half", run[:3] + (events,)), True)
        self.assertFalse(is_one_row(world))

    def test_the_least_index(self):
        for rule in RULES:
            run = broken_run(rule)
            found = what_breaks(run, without=rule)
            if found[0] == "rows":
                world = world_of_run(run, without=rule)
                indices = [index for index, _ in world.decided]
                self.assertEqual(found[1], min(index for index in indices if indices.count(index) > 1))

    def test_drawn_runs_break_nothing(self):
        for seed in range(25):
            drawn = Drawn(300 + seed, clients=1 + seed % 3)
            first = drawn.world
            world = drawn.run(390)
            run = (first.circle, len(first.clients), first.fold, world.events)
            self.assertEqual(what_breaks(run), ("nothing",))
            self.assertEqual(kept_part(run), run)

    def test_kept_parts(self):
        many = 0
        for rule in RULES:
            for seed in range(6):
                drawn = Drawn(seed, without=rule, circle=(0, 1, 2, 3))
                first = drawn.world
                run = (first.circle, len(first.clients), first.fold, drawn.run(150).events)
                kept = kept_part(run)
                world, wished = World(*run[:2], fold=run[2]), []
                for event in run[3]:
                    if world.can_be(event):
                        world = world.done(event)
                        wished.append(event)
                self.assertEqual(kept, run[:3] + (tuple(wished),))
                self.assertEqual(what_breaks(kept), ("nothing",))
                many += kept != run
        self.assertGreater(many, 3)

    def test_not_true(self):
        # two halves of four houses break nothing without "round"
        half = kept_part(broken_run("half"))
        self.assertIs(is_broken_run("half", broken_run("half")), True)
        self.assertIs(is_broken_run("round", broken_run("half")), False)
        self.assertIs(is_broken_run("round", half), False)
        # without "sync" letters are taken that would be held
        self.assertNotEqual(kept_part(broken_run("sync")), broken_run("sync"))

    def test_names(self):
        self.assertEqual(broken_run.__module__, guards.__name__)


if __name__ == "__main__":
    unittest.main()
