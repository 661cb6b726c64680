import random
import unittest

from halvesmeet.house.houses import House
from together import Broken, Town

CIRCLES = ((0, 1, 2), (0, 1), (0, 1, 2, 3), (1, 2, 3), (2,), (0, 1, 2, 3, 4))


def run(seed, events, without=None):
    """A town behind some drawn events; what breaks is raised."""
    chance = random.Random(seed)
    town = Town(chance, chance.choice(CIRCLES), (0, 1, 2, 3, 4), fold=chance.choice((1, 2, 6, 12)), without=without)
    for _ in range(events):
        town.step()
    return town


def breaks(word, seeds, events):
    """Whether one of some towns breaks without a rule."""
    for seed in range(seeds):
        try:
            run(seed, events, word)
        except Broken:
            return True
    return False


class TownTest(unittest.TestCase):
    def test_drawn_events(self):
        towns = [run(seed, 700) for seed in range(40)]
        # enough must have happened for this to show anything
        self.assertGreater(sum(len(town.row) for town in towns), 200)
        self.assertGreater(sum(len(town.leaders) for town in towns), 60)
        self.assertGreater(sum(town.seen["answer"] for town in towns), 100)
        self.assertGreater(sum(town.seen["read"] for town in towns), 20)
        self.assertGreater(sum(town.seen["fall"] for town in towns), 100)
        self.assertGreater(sum(max(key[0] for key in town.leaders) for town in towns if town.leaders), 10)

    def test_long_rows(self):
        for seed in (100, 101, 102):
            town = run(seed, 4000)
            self.assertGreater(len(town.row), 5)

    def test_calm(self):
        # behind drawn events all houses rise, and letters are taken in their sequence: calls come to their answers
        for seed in range(200, 212):
            town = run(seed, 400)
            town.calm(60)
            self.assertEqual(town.open_calls(), [])

    def test_what_is_found_without_a_rule(self):
        for word in ("half", "round"):
            self.assertTrue(breaks(word, 60, 1500), word)

    def test_two_halves(self):
        # two and two of four houses, which hear nothing of one another
        houses = {number: House.fresh(number, (0, 1, 2, 3), without="half") for number in range(4)}
        for pair in ((0, 1), (2, 3)):
            asking = pair[0]
            while houses[asking].role != "asks":
                houses[asking] = houses[asking].beaten()
            letters, calls = [], [("deed", 0, asking, 1, ("put", "a", asking))]
            for _ in range(12):
                for number in pair:
                    houses[number], more = houses[number].synced()
                    letters += more
                if not letters:
                    letters, calls = calls, []
                waiting, letters = letters, []
                for letter in waiting:
                    number = letter[2] if letter[0] == "deed" else letter[3]
                    if letter[0] != "answer" and number in pair:
                        houses[number] = houses[number].taken(letter)
        rows = [houses[number].facts.entries[:houses[number].decided] for number in range(4)]
        self.assertEqual([len(row) for row in rows[::2]], [1, 1])
        self.assertNotEqual(rows[0], rows[2])


if __name__ == "__main__":
    unittest.main()
