"""A plain account of a world: the same events, told by the stages ahead of worlds, and a record that is made anew each time."""

from halvesmeet.base.values import ordered
from halvesmeet.disk.halves import Book
from halvesmeet.house.facts import facts_of_records, records_of_facts
from halvesmeet.house.houses import House
from halvesmeet.net.letters import MAX_LETTERS
from halvesmeet.world.clients import Client


class Account:
    """What a world is behind each event, in plain lists and dicts."""

    def __init__(self, circle, clients, fold=6, without=None):
        self.settings = {"fold": fold, "without": without}
        self.houses = {number: House.fresh(number, circle if number in circle else None, **self.settings) for number in range(9)}
        self.disks = {number: house.book.disk for number, house in self.houses.items()}
        self.bag = []
        self.clients = [Client(number, circle) for number in range(clients)]
        self.history = []
        self.decided = set()
        self.begins, self.circles = {0: 0}, {0: circle}
        self.rows, self.firsts, self.votes, self.promises = {}, {}, {}, {}
        self.answers = set()
        # the facts of the last sync, or those that were left to be read
        self.sure = {number: house.facts for number, house in self.houses.items()}

    def send(self, letters):
        self.bag = (self.bag + list(letters))[-MAX_LETTERS:]
        self.answers |= {letter[2:] for letter in letters if letter[0] == "answer"}

    def become(self, number, house):
        """The house behind what it has done."""
        if self.settings["without"] == "sync":
            house, letters = house.released()
            self.send(letters)
        self.houses[number] = house

    def do(self, event):
        getattr(self, event[0])(*event[1:])
        for number, house in self.houses.items():
            if house is not None:
                self.disks[number] = house.book.disk
                self.look(house)

    def take(self, index):
        letter = self.bag.pop(index)
        if letter[0] in ("answer", "try"):
            number = letter[2]
            self.clients[number], closing = self.clients[number].taken(letter)
            if closing is not None:
                self.history.append(("answer", number, letter[3]) + closing)
            return
        number = letter[2] if letter[0] == "deed" else letter[3]
        if self.houses[number] is not None:
            self.become(number, self.houses[number].taken(letter))

    def lose(self, index):
        self.bag.pop(index)

    def double(self, index):
        self.send((self.bag[index],))

    def beat(self, number):
        self.become(number, self.houses[number].beaten())

    def sync(self, number):
        for facts in self.facts_behind(number):
            self.count(number, facts)
        house, letters = self.houses[number].synced()
        self.houses[number], self.sure[number] = house, house.facts
        self.send(letters)

    def facts_behind(self, number):
        """The facts of the last sync, and those behind each record since."""
        told = () if self.sure[number] is None else records_of_facts(self.sure[number])
        pending = self.houses[number].pending
        return [facts_of_records(told + pending[:many]) for many in range(len(pending) + 1)]

    def fall(self, number, kept):
        steps = self.facts_behind(number)
        self.disks[number] = self.houses[number].fallen(kept)
        self.houses[number] = None
        if self.settings["without"] == "life":
            records = Book(self.disks[number], without="life").records
            steps = [facts_of_records(records[:many]) for many in range(len(records) + 1)]
        left = House.risen(number, self.disks[number], **self.settings).facts
        for facts in steps[:[told == left for told in steps].index(True) + 1]:
            self.count(number, facts)
        self.sure[number] = left

    def rise(self, number):
        self.houses[number] = House.risen(number, self.disks[number], **self.settings)

    def call(self, number, deed):
        self.clients[number], letter = self.clients[number].called(deed)
        self.history.append(("call", number, self.clients[number].calls, deed))
        self.send((letter,))

    def again(self, number, house):
        self.clients[number], letter = self.clients[number].again(house)
        self.send((letter,))

    def leave(self, number):
        self.clients[number] = self.clients[number].given_up()

    def count(self, number, facts):
        """Facts that are sure: their votes and promises."""
        if facts is None:
            return
        if facts.promised >= 0:
            key = (facts.epoch, number)
            self.promises[key] = max(facts.promised, self.promises.get(key, 0))
        if facts.accepted >= 0:
            key = (facts.epoch, facts.accepted, number)
            self.votes[key] = max(facts.length - self.begins[facts.epoch], self.votes.get(key, 0))

    def look(self, house):
        """A house that is up: what it has decided, the epoch that it has begun, and the row that it leads."""
        facts = house.facts
        if facts is None:
            return
        if facts.epoch not in self.begins:
            self.begins[facts.epoch], self.circles[facts.epoch] = facts.base.length, facts.circle
        for index in range(facts.base.length, min(house.decided, facts.length)):
            self.decided.add((index, facts.entry(index)))
        if house.role == "leads":
            key = (facts.epoch, house.memory.term)
            row = self.row_of(facts)
            self.firsts.setdefault(key, house.memory.opening - self.begins[facts.epoch])
            self.rows[key] = max(self.rows.get(key, ()), row, key=len)

    def row_of(self, facts):
        row = []
        for index in range(self.begins[facts.epoch], facts.length):
            if index >= facts.base.length:
                row.append(facts.entry(index))
            else:
                row.append(ordered(tuple(entry for at, entry in self.decided if at == index))[0])
        return tuple(row)

    def told(self):
        """All that a world has, by the names of its properties."""
        plain = {"houses": self.houses, "disks": self.disks, "clients": tuple(self.clients), "history": tuple(self.history),
                 "decided": ordered(tuple(self.decided)), "answers": ordered(tuple(self.answers))}
        for name in ("begins", "circles", "rows", "firsts", "votes", "promises"):
            plain[name] = dict(sorted(getattr(self, name).items()))
        return plain


def check_world(case, world, account):
    """Checks that a world is as an account tells it, and that its dicts have ascending keys."""
    for name, value in account.told().items():
        found = getattr(world, name)
        case.assertEqual(found, value, (name, world.events[-1:]))
        if isinstance(found, dict):
            case.assertEqual(list(found), sorted(found))
    case.assertEqual(list(world.bag), account.bag)
