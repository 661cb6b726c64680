"""Several houses, a bag and clients, moved by drawn events, and what must hold of them at each moment."""

from halvesmeet.house.facts import facts_of_records, records_of_facts
from halvesmeet.house.houses import House
from halvesmeet.store.deeds import do_deed
from halvesmeet.store.states import State

STOPS = ((0, 1, 2), (1, 2, 3), (0, 3), (2,), (0, 1, 2, 3), (1, 3, 4))


class Broken(Exception):
    """What must hold does not."""


class Town:
    """Houses that are up, disks of those that fell, the bag, and the plain row that all of them share."""

    def __init__(self, chance, circle, numbers, *, fold=6, without=None, stops=True):
        self.chance = chance
        self.settings = {"fold": fold, "without": without}
        self.houses = {number: House.fresh(number, circle if number in circle else None, **self.settings)
                       for number in numbers}
        self.disks = {}
        # the facts of each house at its last sync, or as it rose
        self.sure = {number: house.facts for number, house in self.houses.items()}
        self.bag = []
        self.row = []
        self.states = [State.first()]
        self.leaders = {}
        self.calls = {}
        self.numbers = [0] * 5
        self.circle = circle
        self.stops = stops
        # the greatest length that an answer has told so far
        self.told = 0
        self.is_wild = True
        self.seen = {"answer": 0, "read": 0, "fall": 0}
        self.answers = {}

    def step(self):
        """One drawn event; the weather changes now and then."""
        if self.chance.randrange(60) == 0:
            self.is_wild = not self.is_wild
        if self.is_wild:
            self.wild_step()
        else:
            self.mild_step()

    def mild_step(self):
        """Letters are taken in their sequence, and each house is synced behind it."""
        kind = self.chance.randrange(100)
        if kind < 80 and self.bag:
            self.take_at(0)
        elif kind < 90:
            self.call()
        elif kind < 94:
            self.beat()
        else:
            self.rise()
        self.sync_all()

    def sync_all(self):
        for number in self.up():
            self.sync_one(number)

    def calm(self, rounds):
        """Rounds without losses: all rise, beat, and take what went to them, and the open calls are called again."""
        for number in sorted(self.disks):
            self.rise_one(number)
        for _ in range(rounds):
            for number in self.up():
                self.become(number, self.houses[number].beaten())
            self.sync_all()
            for client in self.open_calls():
                number, deed, _ = self.calls[client]
                self.send(tuple(("deed", client, house, number, deed) for house in self.up()))
            # what this leads to, up to the second answer
            for _ in range(4):
                for _ in range(len(self.bag)):
                    self.take_at(0)
                self.sync_all()

    def open_calls(self):
        return sorted(self.calls)

    def wild_step(self):
        kind = self.chance.randrange(100)
        if kind < 55 and self.bag:
            self.take()
        elif kind < 57 and self.bag:
            self.bag.pop(self.chance.randrange(len(self.bag)))
        elif kind < 59 and self.bag:
            self.bag.append(self.chance.choice(self.bag))
        elif kind < 64:
            self.beat()
        elif kind < 92:
            self.sync()
        elif kind < 93:
            self.fall()
        elif kind < 95:
            self.rise()
        else:
            self.call()

    def up(self):
        return sorted(self.houses)

    def take(self):
        # the youngest letters more often than the others, or old ones would stand in their way
        many = len(self.bag)
        at = self.chance.randrange(many) if self.chance.randrange(3) == 0 else max(0, many - 1 - self.chance.randrange(6))
        self.take_at(at)

    def take_at(self, at):
        letter = self.bag.pop(at)
        if letter[0] == "answer":
            self.take_answer(letter)
        elif letter[0] == "try":
            pass
        else:
            number = letter[2] if letter[0] == "deed" else letter[3]
            if number in self.houses:
                self.become(number, self.houses[number].taken(letter))

    def become(self, number, house):
        self.houses[number] = house
        if self.settings["without"] == "sync":
            self.houses[number], letters = house.released()
            self.send(letters)
        self.look(number)

    def send(self, letters):
        self.bag += letters
        self.bag = self.bag[-400:]

    def beat(self):
        if self.houses:
            number = self.chance.choice(self.up())
            self.become(number, self.houses[number].beaten())

    def sync(self):
        if self.houses:
            self.sync_one(self.chance.choice(self.up()))

    def sync_one(self, number):
        house, letters = self.houses[number].synced()
        self.send(letters)
        self.sure[number] = house.facts
        self.become(number, house)

    def fall(self):
        if self.houses:
            number = self.chance.choice(self.up())
            house = self.houses.pop(number)
            puts = house.book.disk.waiting
            kept = tuple([at for at in range(len(puts)) if self.chance.randrange(2)])
            self.disks[number] = house.fallen(kept)
            self.look_at_disk(number, house.pending)
            self.seen["fall"] += 1

    def look_at_disk(self, number, pending):
        """Checks a disk behind a fall: the facts are the sure ones, or those behind some of the pending records."""
        house = House.risen(number, self.disks[number], **self.settings)
        if (house.held, house.pending) != ((), ()):
            raise Broken("what was held")
        told = () if self.sure[number] is None else records_of_facts(self.sure[number])
        if house.facts not in [facts_of_records(told + pending[:many]) for many in range(len(pending) + 1)]:
            raise Broken(("cut", number))
        for kept in ((), tuple(range(len(house.book.disk.waiting)))):
            again = House.risen(number, house.fallen(kept), **self.settings)
            if again.facts != house.facts or again.memory != house.memory:
                raise Broken(("rising twice", number))

    def rise(self):
        if self.disks:
            self.rise_one(self.chance.choice(sorted(self.disks)))

    def rise_one(self, number):
        house = House.risen(number, self.disks.pop(number), **self.settings)
        self.sure[number] = house.facts
        self.become(number, house)

    def call(self):
        client = self.chance.randrange(5)
        if client in self.calls and self.chance.randrange(4):
            number, deed, told = self.calls[client]
        else:
            self.numbers[client] += 1
            number, deed, told = self.numbers[client], self.deed(), self.told
            self.calls[client] = (number, deed, told)
            self.answers[client, number] = (deed, told)
        house = self.chance.choice(sorted(set(self.houses) | set(self.disks)))
        leading = [at for at in self.up() if self.houses[at].role == "leads"]
        if leading and self.chance.randrange(3):
            house = self.chance.choice(leading)
        self.send((("deed", client, house, number, deed),))

    def deed(self):
        key = self.chance.choice("abc")
        kind = self.chance.randrange(12)
        if kind == 0 and self.stops and self.chance.randrange(3) == 0:
            return "circle", self.chance.choice(STOPS)
        if kind < 4:
            return "get", key
        if kind < 6:
            return "list", "a", "c"
        if kind < 8:
            return "put", key, self.chance.randrange(9)
        if kind < 10:
            return "add", key, 1
        return "all", (("add", key, 5), ("swap", "a", self.chance.randrange(3), "x"), ("drop", "b"))

    def take_answer(self, letter):
        _, _, client, number, _, length = letter
        if client in self.calls and self.calls[client][0] == number:
            del self.calls[client]
            self.told = max(self.told, length)

    def look(self, number):
        """Checks a house: one row, one leader for each term, answers as of the plain store."""
        house = self.houses[number]
        facts, memory = house.facts, house.memory
        if facts is None:
            return
        if memory.role == "leads":
            key = (facts.epoch, memory.term)
            if self.leaders.setdefault(key, number) != number:
                raise Broken(("leaders", key))
        if not facts.base.length <= memory.decided <= facts.length:
            raise Broken(("bounds", number))
        for index in range(facts.base.length, memory.decided):
            self.decide(index, facts.entry(index))
        self.check_state(facts.base, "base")
        self.check_state(memory.state, "state")
        for letter in house.held:
            if letter[0] == "answer":
                self.check_answer(letter)
            if letter[0] == "lay" and letter[2] == letter[3]:
                raise Broken(("lays to itself", letter))

    def decide(self, index, entry):
        if index > len(self.row):
            raise Broken(("hole", index))
        if index == len(self.row):
            self.row.append(entry)
            last = self.states[-1]
            self.states.append((last if last.next is None else last.reopened()).run((entry,)))
        if self.row[index] != entry:
            raise Broken(("row", index))

    def check_state(self, state, name):
        if state.length >= len(self.states):
            raise Broken((name, "unknown"))
        wanted = self.states[state.length]
        if state != wanted and (wanted.next is None or state != wanted.reopened()):
            raise Broken((name, "other"))

    def check_answer(self, letter):
        _, _, client, number, answer, length = letter
        deed, told = self.answers[client, number]
        if deed[0] in ("get", "list"):
            self.seen["read"] += 1
            if length < told:
                raise Broken(("stale", letter))
            if answer != do_deed(self.states[length].pairs, deed)[1]:
                raise Broken(("read", letter))
            return
        self.seen["answer"] += 1
        if self.states[length].sessions.get(client) != (number, answer, length):
            raise Broken(("answer", letter))
