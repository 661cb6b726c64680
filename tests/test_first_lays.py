"""First lays in whole worlds: without the rule "whole" they bring at most two entries, in whatever turn they are made."""

import unittest

from drawing import Drawn
from halvesmeet.house.asking import row_from
from halvesmeet.house.memory import RULES
from halvesmeet.judge.guards import broken_run, is_broken_run, kept_part, what_breaks
from halvesmeet.net.letters import receiver
from halvesmeet.world.worlds import World

FIVE = (0, 1, 2, 3, 4)
ROW = tuple((client, 1, ("add", "a", 1)) for client in range(5))


def house_of(world, event):
    """The house that is moved by an event and may send letters, or None."""
    if event[0] == "beat":
        return event[1]
    if event[0] == "take":
        kind, goal = receiver(world.bag.letters[event[1]])
        return goal if kind == "house" and world.houses[goal] is not None else None
    return None


def lays_made(world, event, later):
    """For each lay that an event makes: its way, whether it is a first one, its entries, and all that it could bring."""
    number = house_of(world, event)
    if number is None:
        return []
    before, behind = world.houses[number], later.houses[number]
    word = event[0] if event[0] == "beat" else world.bag.letters[event[1]][0]
    return [((word, before.role), letter[3] not in behind.memory.laid, letter[8], row_from(behind.facts, letter[7])[2])
            for letter in behind.held[len(before.held):] if letter[0] == "lay"]


class Told:
    """A world of five houses that is moved by letters, told by their words and by whom they come from and go to."""

    def __init__(self, without):
        self.world = World(FIVE, 5, fold=12, without=without)

    def do(self, *events):
        self.world = self.world.run(events)

    def take(self, word, sender, goal):
        """The last such letter between two houses is taken."""
        found = [at for at, letter in enumerate(self.world.bag.letters) if letter[0] == word and letter[2:4] == (sender, goal)]
        self.do(("take", found[-1]))

    def take_deed(self, client, goal):
        self.do(("take", self.world.bag.letters.index(("deed", client, goal, *self.world.clients[client].open_call))))

    def lead(self, house, lot):
        """A house asks, and leads by the grants of a lot, its own coming last."""
        self.do(*(("beat", house),) * (3 + house), ("sync", house))
        for other in lot:
            self.take("ask", house, other)
            self.do(("sync", other))
        for other in lot:
            self.take("grant", other, house)

    def lays(self, house):
        """The lays that go with the next sync, by the houses to which they go: their starts, and their entries."""
        held = self.world.houses[house].held
        self.do(("sync", house))
        return {letter[3]: letter[7:9] for letter in held if letter[0] == "lay"}


def told_world(without):
    """0 has five entries, which 1 and 2 have laid, and nobody but 0 knows that they are decided; then 4 leads."""
    told = Told(without)
    told.lead(0, (1, 2, 0))
    told.do(("sync", 0))
    told.take("laid", 0, 0)
    for other in (1, 2):
        told.take("lay", 0, other)
        told.do(("sync", other))
        told.take("laid", other, 0)
    for client, number, deed in ROW:
        told.do(("call", client, deed))
        told.take_deed(client, 0)
        told.row_lays = told.lays(0)
    for other in (1, 2):
        told.take("lay", 0, other)
        told.do(("sync", other))
    told.take("laid", 0, 0)
    told.take("laid", 1, 0)
    told.take("laid", 2, 0)
    assert told.world.houses[0].decided == 5 and told.world.houses[1].decided == 0
    told.lead(4, (1, 2, 4))
    return told


class ToldTest(unittest.TestCase):
    """Each way on which a first lay can go, with all rules, and without one."""

    def both(self, check):
        for rule in (None, "whole", "half", "term"):
            check(told_world(rule), ROW[:2] if rule == "whole" else ROW)

    def test_as_a_house_begins_to_lead(self):
        def check(told, first):
            leads = told.world.houses[4]
            self.assertEqual((leads.role, leads.facts.entries, leads.memory.opening, leads.memory.laid), ("leads", ROW, 5, {}))
            self.assertEqual(told.lays(4), {1: (0, first), 2: (0, first)})
        self.both(check)

    def test_behind_a_late_grant(self):
        def check(told, first):
            told.lays(4)
            told.take("ask", 4, 3)
            told.do(("sync", 3))
            told.take("grant", 3, 4)
            self.assertEqual(told.lays(4), {3: (0, first)})
            told.take("lay", 4, 3)
            facts = told.world.houses[3].facts
            self.assertEqual((facts.accepted, facts.entries), (4, first))
        self.both(check)

    def test_with_a_beat(self):
        def check(told, first):
            told.lays(4)
            for _ in range(2):
                told.do(("beat", 4))
                self.assertEqual(told.lays(4), {1: (0, first), 2: (0, first)})
        self.both(check)

    def test_with_a_read(self):
        def check(told, first):
            told.lays(4)
            told.do(("leave", 3), ("call", 3, ("get", "a")), ("again", 3, 4))
            told.take_deed(3, 4)
            self.assertEqual(told.world.houses[4].memory.round, 1)
            self.assertEqual(told.lays(4), {1: (0, first), 2: (0, first)})
        self.both(check)

    def test_a_lay_that_is_not_the_first_one(self):
        def check(told, first):
            # 0 has laid five entries at once to those that had laid none
            self.assertEqual(told.row_lays, {1: (0, ROW), 2: (0, ROW)})
            told.lays(4)
            told.take("lay", 4, 1)
            # what is brought is taken, whatever the opening is
            facts = told.world.houses[1].facts
            self.assertEqual((facts.accepted, facts.entries), (4, first))
            told.do(("sync", 1))
            told.take("laid", 1, 4)
            self.assertEqual(told.lays(4), {} if first == ROW else {1: (2, ROW[2:])})
            # the beat lays to both: to 1 from what it has laid, to 2 once more as at first
            told.do(("beat", 4))
            self.assertEqual(told.lays(4), {1: (len(first), ROW[len(first):]), 2: (0, first)})
        self.both(check)

    def test_the_rest_of_the_row_comes(self):
        told = told_world("whole")
        told.lays(4)
        told.take("lay", 4, 1)
        told.do(("sync", 1))
        told.take("laid", 1, 4)
        told.do(("sync", 4))
        told.take("lay", 4, 1)
        self.assertEqual(told.world.houses[1].facts.entries, ROW)


class DrawnTest(unittest.TestCase):
    def ways(self, drawn, many, seen):
        """Checks each lay of a drawn world, and counts the ways of those with more than two entries to bring."""
        world = drawn.world
        for later in drawn.worlds(many):
            for way, is_first, entries, rest in lays_made(world, later.events[-1], later):
                wished = rest[:2] if is_first and world.without == "whole" else rest
                self.assertEqual(entries, wished, way)
                if len(rest) > 2:
                    seen[way + (is_first,)] = seen.get(way + (is_first,), 0) + 1
            world = later

    def test_drawn_worlds(self):
        firsts = [("grant", "asks", True), ("grant", "leads", True), ("beat", "leads", True), ("deed", "leads", True)]
        others = [("beat", "leads", False), ("deed", "leads", False), ("laid", "leads", False)]
        for rule in ("whole", None):
            seen = {}
            for seed in range(60):
                self.ways(Drawn(700 + seed, clients=5, fold=12, without=rule, stops=0.02, is_wild=(None, True)[seed % 2]), 400, seen)
            self.assertEqual(sorted(seen), sorted(firsts + others))
            self.assertGreater(min(seen.values()), 1, seen)

    def test_without_other_rules(self):
        for rule in RULES:
            # without "sync" no letters are held
            if rule not in ("whole", "sync"):
                for seed in range(6):
                    self.ways(Drawn(800 + seed, clients=5, fold=12, without=rule, stops=0.02), 300, {})


class RunTest(unittest.TestCase):
    """The told run that breaks without the rule."""

    def test_first_lays(self):
        circle, clients, fold, events = broken_run("whole")
        world, cut = World(circle, clients, fold=fold, without="whole"), []
        for event in events:
            later = world.done(event)
            for way, is_first, entries, rest in lays_made(world, event, later):
                self.assertEqual(entries, rest[:2] if is_first else rest)
                if is_first and len(rest) > 2:
                    cut.append(way)
            world = later
        self.assertEqual(cut, [("grant", "asks"), ("beat", "leads")])

    def test_by_the_lay_with_which_a_house_begins_to_lead(self):
        # in the run 2 takes the lay of a beat; it breaks as well without this beat, by the lay ahead of it
        circle, clients, fold, events = broken_run("whole")
        at = 55
        self.assertEqual(events[at:at + 3], (("beat", 1), ("sync", 1), ("take", 5)))
        rest = tuple((word, number - 3) if word in ("take", "lose") else (word, number, *more) for word, number, *more in events[at + 2:])
        run = (circle, clients, fold, events[:at] + rest)
        self.assertEqual(what_breaks(run, without="whole"), ("rows", 2))
        self.assertIs(is_broken_run("whole", run), True)

    def test_breaks(self):
        run = broken_run("whole")
        self.assertEqual(what_breaks(run, without="whole"), ("rows", 2))
        self.assertIs(is_broken_run("whole", run), True)
        self.assertEqual(what_breaks(kept_part(run)), ("nothing",))
        for rule in RULES:
            if rule != "whole":
                self.assertIs(is_broken_run(rule, run), False)


if __name__ == "__main__":
    unittest.main()
