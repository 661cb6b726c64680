"""The main statements over drawn worlds: one row, as one store, cuts."""

import itertools
import unittest

from drawing import Drawn, drawn_world
from halvesmeet.house.facts import facts_of_records, records_of_facts
from halvesmeet.house.houses import House
from halvesmeet.judge.orders import is_order, order_paper
from halvesmeet.judge.sound import is_sound
from halvesmeet.store.deeds import do_deed, is_read
from halvesmeet.store.states import State
from halvesmeet.world.calm import calm
from halvesmeet.world.worlds import World, is_one_row

THREE = (0, 1, 2)


def plain_states(row):
    """The states of the one plain store behind each beginning of a row."""
    states = [State.first()]
    for entry in row:
        last = states[-1]
        states.append((last if last.next is None else last.reopened()).done(entry)[0])
    return states


class OneRowTest(unittest.TestCase):
    def test_drawn_worlds(self):
        many = {"rows": 0, "answers": 0, "reads": 0, "epochs": 0, "leaders": 0, "falls": 0, "lost": 0, "doubled": 0}
        for seed in range(30):
            drawn = Drawn(100 + seed, stops=0.1)
            row = ()
            for world in itertools.islice(drawn.worlds(500), 9, None, 10):
                self.assertTrue(is_one_row(world))
                later = tuple(entry for _, entry in world.decided)
                self.assertEqual(later[:len(row)], row)
                row = later
                leading = [house for house in world.houses.values() if house is not None and house.role == "leads"]
                many["leaders"] += len(leading) > 1
            many["reads"] += self.check_answers(world, row)
            self.assertTrue(is_order(world.history, order_paper(world)))
            many["rows"] += len(row)
            many["answers"] += len(world.answers)
            many["epochs"] += max(world.begins)
            for word, name in (("fall", "falls"), ("lose", "lost"), ("double", "doubled")):
                many[name] += len([event for event in world.events if event[0] == word])
        self.assertGreater(min(many.values()), 3, many)

    def check_answers(self, world, row):
        """Checks that each answer is that of the one plain store; returns how many reads there were."""
        states = plain_states(row)
        deeds = {told[1:3]: told[3] for told in world.history if told[0] == "call"}
        reads = 0
        for client, number, answer, length in world.answers:
            deed = deeds[client, number]
            if is_read(deed):
                reads += 1
                self.assertEqual(do_deed(states[length].pairs, deed)[1], answer)
            else:
                self.assertEqual(row[length - 1], (client, number, deed))
                self.assertEqual(states[length].sessions[client], (number, answer, length))
        return reads

    def test_answers_ahead_of_a_call_are_seen(self):
        # what was answered ahead of a call has a lesser length, or for two reads an equal one
        for seed in range(10):
            world = drawn_world(seed, 400)
            for told in world.history:
                if told[0] == "answer":
                    called = [row[:3] for row in world.history].index(("call",) + told[1:3])
                    ahead = [row[4] for row in world.history[:called] if row[0] == "answer"]
                    self.assertLessEqual(max(ahead, default=0), told[4])

    def test_less_than_more_than_half(self):
        # half of an even circle, and one less than more than half of an odd one, decide nothing
        for circle, lot in (((0, 1), (0,)), (THREE, (2,)), ((0, 1, 2, 3), (0, 3)), ((1, 3, 5, 7, 8), (3, 5)), (tuple(range(6)), (0, 1, 2))):
            drawn = Drawn(1, circle=circle, clients=2, stops=0)
            world = drawn.world.run(tuple(("fall", house, ()) for house in circle if house not in lot))
            drawn.world, drawn.rise = world, lambda: None
            drawn.is_wild = False
            world = drawn.run(400)
            self.assertEqual((world.decided, world.answers, world.rows), ((), (), {}))

    def test_circles_of_all_sizes(self):
        for many in range(1, 8):
            world = drawn_world(many, 500, circle=tuple(range(8 - many, 8)), clients=3, is_wild=False, stops=0)
            self.assertGreater(len(world.decided), 2 if many < 5 else 0)
            self.assertTrue(is_sound(world))

    def test_fold(self):
        deeds = [("put", "a", 1), ("add", "a", 2), ("get", "a"), ("drop", "b"), ("all", (("add", "a", 1), ("put", "c", "x"))), ("put", "d", "y")] * 3
        told = set()
        bases = set()
        for fold in range(1, 13):
            world = World(THREE, 1, fold=fold)
            for deed in deeds:
                world = world.done(("call", 0, deed))
                world = world.run(calm(world, THREE))
            told.add((world.decided, world.history))
            bases.add(world.houses[0].facts.base.length)
        self.assertEqual(len(told), 1)
        self.assertGreater(len(bases), 4)


class CutTest(unittest.TestCase):
    def test_falls_at_every_place(self):
        many = 0
        for seed in range(12):
            drawn = Drawn(200 + seed, stops=0.1)
            sure = {number: house.facts for number, house in drawn.world.houses.items()}
            for world in drawn.worlds(180):
                word, number = world.events[-1][:2]
                if word in ("sync", "rise"):
                    sure[number] = world.houses[number].facts
                if word in ("beat", "sync", "take"):
                    many += self.check_falls(world, sure)
        self.assertGreater(many, 1000)

    def check_falls(self, world, sure):
        """Each fall leaves the facts of the last sync, or those behind some of the next records."""
        many = 0
        for number, house in world.houses.items():
            if house is None or not house.book.disk.waiting:
                continue
            told = () if sure[number] is None else records_of_facts(sure[number])
            facts = [facts_of_records(told + house.pending[:count]) for count in range(len(house.pending) + 1)]
            puts = range(len(house.book.disk.waiting))
            for kept in {(), tuple(puts), *[(at,) for at in puts], *[tuple(set(puts) - {at}) for at in puts], tuple(puts)[::2]}:
                left = world.done(("fall", number, tuple(sorted(kept)))).done(("rise", number))
                self.assertIn(left.houses[number].facts, facts)
                self.assertEqual(left.houses[number].held, ())
                many += 1
        return many

    def test_a_fall_is_a_pause(self):
        # the record of a world tells no letters of records that were lost: its pictures stay sound
        for seed in range(6):
            world = drawn_world(seed, 250, is_wild=True)
            for number, house in world.houses.items():
                if house is not None:
                    self.assertTrue(is_sound(world.done(("fall", number, ())).done(("rise", number))))
                    self.assertEqual(House.risen(number, world.done(("fall", number, ())).disks[number]).held, ())


class NoneIsTrueTest(unittest.TestCase):
    """[0.24]"""

    def test_a_chosen_entry_does_not_lie_on_more_than_half_for_ever(self):
        # it is folded into the base
        world = World(THREE, 1, fold=1)
        for number in range(3):
            world = world.done(("call", 0, ("put", "a", number)))
            world = world.run(calm(world, THREE))
        self.assertIn((0, (0, 1, ("put", "a", 0))), world.decided)
        for house in THREE:
            self.assertNotIn((0, 1, ("put", "a", 0)), world.houses[house].facts.entries)

    def test_two_lead(self):
        world = World(THREE, 1).done(("call", 0, ("get", "a")))
        world = world.run(calm(world, (0, 1)))
        world = world.done(("call", 0, ("get", "a")))
        # house 0 hears nothing of it
        later = World(THREE, 1).done(("call", 0, ("get", "a")))
        later = later.run(calm(later, (0, 1))).done(("call", 0, ("get", "a")))
        while later.houses[2].role != "leads":
            later = later.run((("beat", 2), ("sync", 2)) if later.houses[2].role != "asks" else ())
            later = self.taken_among(later, (1, 2))
        self.assertEqual([later.houses[number].role for number in (0, 2)], ["leads", "leads"])

    def taken_among(self, world, lot):
        """The world in which the letters among some houses are taken, and others are lost."""
        while len(world.bag):
            letter = world.bag.letters[0]
            if letter[0] in ("deed", "answer", "try") or letter[3] not in lot or letter[2] not in lot:
                world = world.done(("lose", 0))
            else:
                world = world.run((("take", 0), ("sync", letter[3])))
        return world


if __name__ == "__main__":
    unittest.main()
