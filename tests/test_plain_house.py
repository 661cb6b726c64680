"""Houses in drawn worlds, held against an account that was written from the document alone."""

import random
import unittest

from drawing import Drawn
from halvesmeet.house.memory import RULES
from halvesmeet.net.letters import receiver
from plain_house import PlainHouse, told_of


class PlainHouseTest(unittest.TestCase):
    def check(self, drawn, many, seen):
        world = drawn.world
        houses = {number: PlainHouse(house) for number, house in world.houses.items()}
        for later in drawn.worlds(many):
            word, *rest = later.events[-1]
            number, letters = None, None
            if word == "take":
                letter = world.bag.letters[rest[0]]
                kind, goal = receiver(letter)
                if kind == "house" and goal in houses:
                    number = goal
                    houses[number].take(letter)
                    seen[letter[0]] = seen.get(letter[0], 0) + 1
            elif word in ("beat", "sync"):
                number = rest[0]
                letters = getattr(houses[number], word)()
            elif word == "fall":
                del houses[rest[0]]
            elif word == "rise":
                number = rest[0]
                houses[number] = PlainHouse(later.houses[number])
            if number is not None and world.without == "sync" and word in ("take", "beat"):
                letters = houses[number].release()
            if number is not None:
                self.compare(houses[number], later.houses[number], later.events[-1])
            if letters:
                self.assertEqual(later.bag.letters[-len(letters):], letters[-400:])
            world = later

    def compare(self, plain, house, event):
        facts, memory, held, pending, book = told_of(house)
        self.assertEqual(plain.facts, facts, event)
        self.assertEqual(plain.memory, memory, event)
        self.assertEqual((plain.held, plain.pending), (held, pending), event)
        self.assertEqual(plain.book, book, event)

    def test_drawn_worlds(self):
        seen = {}
        for seed in range(70):
            self.check(Drawn(seed, stops=(0.05, 0.2)[seed % 2], is_wild=(None, True, False)[seed % 3]), 300, seen)
        self.assertEqual(set(seen), {"ask", "grant", "bar", "lay", "laid", "carry", "begun", "deed"})
        self.assertGreater(min(seen.values()), 3, seen)

    def test_without_a_rule(self):
        for rule in RULES:
            for seed in range(14):
                self.check(Drawn(500 + seed, without=rule, stops=0.1), 220, {})

    def test_without_whole(self):
        # long rows behind what is decided, so that first lays would bring more than two entries
        for seed in range(60):
            self.check(Drawn(700 + seed, clients=5, fold=12, without="whole", stops=0.02, is_wild=(None, True)[seed % 2]), 400, {})

    def test_long_rows(self):
        # a leader whose letters are seldom taken: rows behind a base without room
        for seed in range(6):
            drawn = Drawn(900 + seed, circle=(0, 1, 2), clients=5, fold=12, stops=0)
            drawn.chance = random.Random(seed)
            self.check(drawn, 1500, {})


if __name__ == "__main__":
    unittest.main()
