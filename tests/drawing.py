"""Drawn worlds: rows of events of all kinds, with fair and with bad weather."""

import random

from halvesmeet.world.worlds import World

CIRCLES = ((0, 1, 2), (0, 1), (0, 1, 2, 3), (1, 2, 3), (2,), (0, 1, 2, 3, 4), (4, 5, 6, 7, 8), (0, 1, 2, 3, 4, 5), (0, 1, 2, 3, 4, 5, 6))
DEEDS = (("put", "a", 1), ("put", "b", "x"), ("add", "a", 1), ("add", "b", 1), ("get", "a"), ("get", "b"), ("list", "a", "c"),
         ("drop", "a"), ("swap", "a", 1, 2), ("swap", "c", None, "y"), ("all", (("add", "a", 1), ("put", "c", 2))))
STOPS = ((0, 1, 2), (1, 2, 3), (0, 3), (2,), (0, 1, 2, 3), (4, 5, 6), (0, 1, 2, 3, 4))


class Drawn:
    """A world that is moved by drawn events."""

    def __init__(self, seed, circle=None, clients=None, fold=None, without=None, stops=0.06, is_wild=None):
        self.chance = random.Random(seed)
        circle = circle or self.chance.choice(CIRCLES)
        fold = fold or self.chance.choice((1, 2, 3, 6, 12))
        self.world = World(circle, clients or self.chance.choice((1, 2, 3, 5)), fold=fold, without=without)
        self.stops = stops
        self.is_wild = is_wild
        self.is_bad = False

    def worlds(self, many):
        """The worlds behind so many drawn events, one after the other."""
        for _ in range(many):
            self.step()
            yield self.world

    def run(self, many):
        for _ in range(many):
            self.step()
        return self.world

    def step(self):
        if self.chance.random() < 0.02:
            self.is_bad = self.chance.random() < 0.5
        event = None
        while event is None or not self.world.can_be(event):
            event = self.event()
        self.world = self.world.done(event)

    def event(self):
        """A drawn event, None if there is none of the drawn kind."""
        bad = self.is_bad if self.is_wild is None else self.is_wild
        kind = self.chance.random()
        if kind < 0.50:
            return self.take(bad)
        if kind < 0.86:
            return self.sync()
        if kind < 0.91:
            return self.of_house("beat")
        if kind < 0.94:
            return self.bad_luck(kind) if bad else self.take(False)
        if kind < 0.96:
            return self.rise()
        return self.of_client()

    def take(self, bad):
        many = len(self.world.bag)
        if many == 0:
            return None
        return "take", (self.chance.randrange(many) if bad and self.chance.random() < 0.3 else 0)

    def of_house(self, word):
        ready = [number for number, house in self.world.houses.items() if house is not None and house.facts is not None]
        number = self.chance.choice(ready) if ready and self.chance.random() < 0.95 else self.chance.randrange(9)
        leading = [number for number in ready if self.world.houses[number].role == "leads"]
        if leading and self.chance.random() < 0.7:
            number = self.chance.choice(leading)
        return word, number

    def sync(self):
        busy = [number for number, house in self.world.houses.items() if house is not None and (house.held or house.pending)]
        return ("sync", self.chance.choice(busy)) if busy else None

    def bad_luck(self, kind):
        many = len(self.world.bag)
        if kind < 0.93:
            return (self.chance.choice(("lose", "double")), self.chance.randrange(many)) if many else None
        _, number = self.of_house("fall")
        if self.world.houses[number] is None:
            return None
        puts = range(len(self.world.houses[number].book.disk.waiting))
        return "fall", number, tuple(at for at in puts if self.chance.random() < 0.5)

    def rise(self):
        down = [number for number, house in self.world.houses.items() if house is None]
        return ("rise", self.chance.choice(down)) if down else None

    def of_client(self):
        client = self.chance.choice(self.world.clients)
        if client.open_call is None:
            stop = self.chance.random() < self.stops
            return "call", client.number, (("circle", self.chance.choice(STOPS)) if stop else self.chance.choice(DEEDS))
        if self.chance.random() < 0.04:
            return "leave", client.number
        leading = [number for number, house in self.world.houses.items() if house is not None and house.role == "leads"]
        if leading and self.chance.random() < 0.95:
            return "again", client.number, self.chance.choice(leading)
        return "again", client.number, self.chance.randrange(9)


def drawn_world(seed, many, **settings):
    """The world behind so many drawn events."""
    return Drawn(seed, **settings).run(many)
