import copy
import unittest

from drawing import Drawn, drawn_world
from halvesmeet.base.values import ordered
from halvesmeet.errors import InvalidNumber, InvalidWorld
from halvesmeet.disk.halves import Book
from halvesmeet.house.facts import Facts, records_of_facts
from halvesmeet.house.houses import House
from halvesmeet.house.memory import RULES
from halvesmeet.judge.guards import broken_run, world_of_run
from halvesmeet.judge.pictures import Picture
from halvesmeet.judge.sound import actions_between, fault, is_sound, picture_of
from halvesmeet.store.deeds import do_deed, is_read
from halvesmeet.store.states import State
from halvesmeet.world.calm import calm
from halvesmeet.world.worlds import World
from support import Parameter, check_errors, kind_of_error, odd_values
from test_pictures import plain_faults

THREE = (0, 1, 2)
PUT = ("put", "a", 1)


def plain_picture(world, epoch):
    circle = world.circles[epoch]
    return Picture(circle, {house: world.promises.get((epoch, house), -1) for house in circle},
                   {term: row for (told, term), row in world.rows.items() if told == epoch},
                   {term: many for (told, term), many in world.firsts.items() if told == epoch},
                   {house: {term: many for (told, term, other), many in world.votes.items() if (told, other) == (epoch, house)} for house in circle})


class Account:
    """A plain account of the three sentences on worlds, for one of which all pictures are sound."""

    def __init__(self, world):
        self.world = world
        self.pictures = {epoch: plain_picture(world, epoch) for epoch in world.begins}
        self.row = [entry for picture in self.pictures.values() for entry in picture.row()]
        # for each pair of an epoch and a length the state that a house of this epoch has there
        self.states = [State.first()]
        for entry in self.row:
            last = self.states[-1]
            self.states.append((last if last.next is None else last.reopened()).done(entry)[0])

    def has_state(self, epoch, state):
        if state.length >= len(self.states):
            return False
        wished = self.states[state.length]
        if wished.next is not None and self.world.begins[epoch] == state.length:
            wished = wished.reopened()
        return state == wished

    def faults(self):
        """All sentences that are broken, in their sequence."""
        for number in range(9):
            disk = self.world.disks[number]
            facts = House.risen(number, disk.fallen(()), without=self.world.without).facts
            if facts is not None and not self.is_shown(number, facts):
                yield "disks", number
        for number, house in self.world.houses.items():
            if house is not None and house.facts is not None and not self.is_decided(house):
                yield "states", number
        for epoch in self.world.begins:
            if epoch > 0 and not self.does_follow(epoch):
                yield ("states",)
        for index, told in enumerate(self.world.answers):
            if not self.is_right_answer(*told):
                yield "answers", index

    def is_shown(self, number, facts):
        picture = self.pictures[facts.epoch]
        if number not in picture.circle or not self.has_state(facts.epoch, facts.base):
            return False
        votes = picture.votes[number]
        if (facts.promised, facts.accepted) != (picture.promised[number], max(votes, default=-1)):
            return False
        if facts.accepted == -1:
            return True
        begin = self.world.begins[facts.epoch]
        row = self.row[begin:facts.base.length] + list(facts.entries)
        return row == list(picture.rows[facts.accepted][:votes[facts.accepted]]) and len(row) == votes[facts.accepted]

    def is_decided(self, house):
        facts = house.facts
        known = list(facts.entries[:house.decided - facts.base.length])
        return self.has_state(facts.epoch, house.memory.state) and known == self.row[facts.base.length:house.decided]

    def does_follow(self, epoch):
        if epoch - 1 not in self.pictures:
            return False
        ahead = self.pictures[epoch - 1].row()
        return bool(ahead) and ahead[-1][2] == ("circle", self.world.circles[epoch]) \
            and self.world.begins[epoch - 1] + len(ahead) == self.world.begins[epoch]

    def is_right_answer(self, client, number, answer, length):
        deed = [row[3] for row in self.world.history if row[:3] == ("call", client, number)][0]
        if length >= len(self.states):
            return False
        state = self.states[length]
        if is_read(deed):
            return do_deed(state.pairs, deed)[1] == answer
        return length > 0 and self.row[length - 1][:2] == (client, number) and state.sessions[client] == (number, answer, length)


def plain_fault(world):
    for epoch in world.begins:
        for found in plain_faults(plain_picture(world, epoch)):
            return found[:1] + (epoch,) + found[1:]
    for found in Account(world).faults():
        return found
    return None


class WorldTest(unittest.TestCase):
    def test_drawn_worlds(self):
        many = {"rows": 0, "epochs": 0, "answers": 0, "bases": 0}
        for seed in range(20):
            drawn = Drawn(seed, stops=0.15)
            pictures = {0: Picture.first(drawn.world.circle)}
            for world in drawn.worlds(250):
                self.assertIsNone(fault(world), world.events[-1])
                pictures = self.check_step(pictures, world)
            self.assertIsNone(plain_fault(world))
            many["rows"] += len(world.decided)
            many["epochs"] += max(world.begins)
            many["answers"] += len(world.answers)
            many["bases"] += len([1 for house in world.houses.values() if house and house.facts and house.facts.base.length > 0])
        self.assertGreater(min(many.values()), 8, many)

    def check_step(self, pictures, world):
        """Checks that an event leads each picture to the next one by actions that are let; returns the pictures."""
        later = {}
        for epoch in world.begins:
            picture = picture_of(world, epoch)
            self.assertEqual(picture, plain_picture(world, epoch))
            one = pictures.get(epoch, Picture.first(world.circles[epoch]))
            actions = actions_between(one, picture)
            self.assertIsNotNone(actions, world.events[-1])
            words = {"take": {"lead", "append"}, "sync": {"vote", "promise"}, "fall": {"vote", "promise"}}.get(world.events[-1][0], set())
            self.assertLessEqual({action[0] for action in actions}, words)
            for action in actions:
                self.assertTrue(one.is_let(action))
                one = one.done(action)
                self.assertIsNone(one.fault())
            self.assertEqual(one, picture)
            later[epoch] = picture
        return later

    def test_what_is_decided_is_chosen(self):
        for seed in range(12):
            world = drawn_world(seed, 400)
            row = tuple(entry for epoch in world.begins for entry in picture_of(world, epoch).row())
            self.assertEqual([entry for _, entry in world.decided], list(row[:len(world.decided)]))

    def test_without_a_rule(self):
        words = {}
        for rule in RULES:
            worlds = [drawn_world(seed, 150, without=rule) for seed in range(8)]
            run = broken_run(rule)
            for many in range(0, len(run[3]) + 1, 6):
                worlds.append(world_of_run(run[:3] + (run[3][:many],), without=rule))
            worlds.append(world_of_run(run, without=rule))
            for world in worlds:
                found = fault(world)
                self.assertEqual(found, plain_fault(world), (rule, world.events))
                self.assertIs(is_sound(world), found is None)
                words.setdefault(found and found[0], set()).add(rule)
        self.assertEqual(words["lots"] & {"half", "sync"}, {"half", "sync"})
        self.assertIn("chosen", words)
        self.assertIn("votes", words)
        self.assertIn("states", words)
        self.assertEqual(words[None], set(RULES))

    def test_told_faults(self):
        # what each rule keeps, as the run that breaks without it shows
        told = {"sync": "lots", "life": "chosen", "promise": "chosen", "best": "chosen", "whole": "votes", "half": "lots",
                "term": "states", "carry": "chosen"}
        for rule, word in told.items():
            world = world_of_run(broken_run(rule), without=rule)
            self.assertEqual(fault(world)[0], word)
        # a stale read is that of the state at its length: no sentence, but the order is broken
        self.assertIsNone(fault(world_of_run(broken_run("round"), without="round")))

    def test_the_epoch_stands_behind_the_word(self):
        world = world_of_run(broken_run("carry"), without="carry")
        self.assertEqual(fault(world), ("chosen", 1, 0, 2))
        self.assertEqual(picture_of(world, 1).fault(), ("chosen", 0, 2))
        self.assertIsNone(picture_of(world, 0).fault())

    def test_errors(self):
        world = Parameter(World(THREE, 1), lambda value: isinstance(value, World), InvalidWorld)
        epoch = Parameter(0, lambda value: type(value) is int and value == 0, InvalidNumber)
        check_errors(self, picture_of, [world, epoch])
        for function in (fault, is_sound):
            check_errors(self, function, [world])
        later = [drawn for drawn in (drawn_world(seed, 400, stops=0.4) for seed in range(20)) if max(drawn.begins) > 0][0]
        last = max(later.begins)
        self.assertIsNone(kind_of_error(picture_of, [later, last]))
        self.assertEqual(kind_of_error(picture_of, [later, last + 1]), (InvalidNumber, last + 1))
        self.assertEqual(kind_of_error(picture_of, [later, True]), (InvalidNumber, True))
        for value in odd_values():
            if not isinstance(value, World):
                self.assertEqual(kind_of_error(picture_of, [value, value]), (InvalidWorld, None))


def with_parts(world, **changes):
    """The world with some parts exchanged, as no events lead there."""
    later = copy.copy(world)
    later._parts = {**world._parts, **changes}
    return later


class SentencesTest(unittest.TestCase):
    """Each sentence on worlds alone, by worlds that were altered by hand."""

    def world(self):
        drawn = Drawn(3, circle=THREE, clients=2, fold=6, stops=0, is_wild=False)
        while len(drawn.world.answers) < 4 or len(drawn.world.decided) < 3 or any(h.pending for h in drawn.world.houses.values() if h):
            drawn.step()
        return drawn.world

    def test_answers(self):
        world = self.world()
        self.assertIsNone(fault(world))
        for told in world.answers:
            for other in (told[:2] + (("full",),) + told[3:], told[:3] + (told[3] + 1,), told[:3] + (0,), told[:3] + (10 ** 9,)):
                answers = [answer for answer in world.answers if answer != told] + [other]
                later = with_parts(world, answers={answer: True for answer in answers})
                at = ordered(tuple(answers)).index(other)
                self.assertEqual(fault(later), plain_fault(later))
                if other[2] == ("full",) or other[3] == 10 ** 9:
                    self.assertEqual(fault(later), ("answers", at))

    def test_disks(self):
        world = self.world()
        for number in THREE:
            empty = with_parts(world, houses={**world.houses, number: House.fresh(number, THREE)})
            self.assertEqual(fault(empty), ("disks", number))
            self.assertEqual(plain_fault(empty), ("disks", number))
            # what is not synced yet does not count
            asks = world.houses[number].beaten()
            self.assertIsNone(fault(with_parts(world, houses={**world.houses, number: asks})))
        # of two houses the least one is told; houses that are down count, too
        fresh = {number: House.fresh(number, THREE) for number in (1, 2)}
        self.assertEqual(fault(with_parts(world, houses={**world.houses, **fresh})), ("disks", 1))
        down = with_parts(world, houses={**world.houses, 2: None}, fallen={2: fresh[2].book.disk})
        self.assertEqual(fault(down), ("disks", 2))
        # promises and votes of the picture that the disk does not show
        promises = {**world.promises, (0, 1): world.promises[0, 1] + 1}
        self.assertEqual(fault(with_parts(world, promises=promises)), ("disks", 1))
        term = max(world.rows)[1]
        votes = {**world.votes, (0, term, 2): world.votes[0, term, 2] - 1}
        self.assertEqual(fault(with_parts(world, votes=votes)), ("disks", 2))

    def test_states(self):
        world = self.world()
        for number in THREE:
            house = world.houses[number]
            known = house.memory.state
            for state in (State.first(), known.done((1, 99, ("put", "a", 77)))[0], State(known.length, {"z": 1}, known.sessions, None)):
                if state == known:
                    continue
                other = copy.copy(house)
                other._memory = house.memory.but({"state": state})
                later = with_parts(world, houses={**world.houses, number: other})
                self.assertEqual(fault(later), plain_fault(later))
                if state.length > 0:
                    self.assertEqual(fault(later), ("states", number))

    def with_facts(self, world, number, facts):
        """The world in which a house is down, with facts on its disk."""
        disk = Book.fresh().turned(records_of_facts(facts)).synced().disk
        return with_parts(world, houses={**world.houses, number: None}, fallen={**world._parts["fallen"], number: disk})

    def test_each_part_of_a_disk(self):
        for fold in (1, 12):
            world = World(THREE, 1, fold=fold)
            for deed in (PUT, ("put", "b", 2), ("add", "a", 1)):
                world = world.done(("call", 0, deed))
                world = world.run(calm(world, THREE))
            facts = world.houses[1].facts
            self.assertEqual(facts.base.length > 0, fold == 1)
            self.assertIsNone(fault(self.with_facts(world, 1, facts)))
            base, entries = facts.base, facts.entries
            state = State(base.length, {**base.pairs, "z": 1}, base.sessions, None)
            told = {"promised": facts.promised + 3, "accepted": facts.accepted - 3, "base": state, "entries": entries[:-1],
                    "longer": entries + ((1, 1, PUT),), "other": entries[:-1] + ((0, 3, ("put", "z", 9)),), "circle": (1,)}
            for name, value in told.items():
                parts = [facts.epoch, facts.circle, facts.promised, facts.accepted, base, entries]
                at = {"promised": 2, "accepted": 3, "base": 4, "circle": 1}.get(name, 5)
                if name == "accepted" and value < 0 or at == 5 and not entries:
                    continue
                later = self.with_facts(world, 1, Facts(*parts[:at], value, *parts[at + 1:]))
                self.assertEqual(fault(later), plain_fault(later))
                self.assertEqual(fault(later), None if name == "circle" else ("disks", 1), name)
        # a house that has accepted nothing, or has no epoch
        self.assertEqual(fault(self.with_facts(world, 1, Facts(0, THREE, facts.promised, -1, State.first(), ()))), ("disks", 1))
        self.assertIsNone(fault(with_parts(world, houses={**world.houses, 8: None}, fallen={8: Book.fresh().disk})))

    def test_a_base_beyond_the_vote(self):
        world = World(THREE, 1, fold=12)
        for number in range(3):
            world = world.done(("call", 0, ("put", "a", number)))
            world = world.run(calm(world, THREE))
        facts = world.houses[1].facts
        folded = Facts(0, THREE, facts.promised, facts.accepted, facts.state_at(3), ())
        later = self.with_facts(world, 1, folded)
        self.assertIsNone(fault(later))
        later = with_parts(later, votes={**world.votes, (0, facts.accepted, 1): 2})
        self.assertEqual((fault(later), plain_fault(later)), (("disks", 1), ("disks", 1)))
        # a house that the circle of the picture lacks
        later = with_parts(world, circles={0: (1, 2)})
        self.assertEqual((fault(later), plain_fault(later)), (("disks", 0), ("disks", 0)))

    def test_what_a_house_has_decided(self):
        world = World(THREE, 1, fold=12)
        for deed in (PUT, ("put", "b", 2), ("add", "a", 1)):
            world = world.done(("call", 0, deed))
            world = world.run(calm(world, THREE))
        house = world.houses[1]
        # other entries than the row of all has, though the state is right
        other = copy.copy(house)
        facts = house.facts
        other._facts = Facts(0, THREE, facts.promised, facts.accepted, facts.base, ((0, 1, ("put", "z", 1)),) + facts.entries[1:])
        later = with_parts(world, houses={**world.houses, 1: other})
        self.assertEqual((fault(later), plain_fault(later)), (("states", 1), ("states", 1)))

    def test_how_epochs_follow(self):
        world = World(THREE, 1).done(("call", 0, ("circle", (0, 1))))
        world = world.run(calm(world, THREE)).done(("call", 0, PUT))
        world = world.run(calm(world, THREE))
        self.assertEqual((world.begins, fault(world)), ({0: 0, 1: 1}, None))
        entry = (0, 1, PUT)
        rows = {**world.rows, (0, 0): (entry,)}
        changes = [{"circles": {0: THREE, 1: (0, 1, 5)}}, {"begins": {0: 0, 1: 0}}, {"begins": {0: 0, 1: 2}}, {"rows": rows},
                   {"begins": {0: 0, 1: 1, 2: 2}, "circles": {0: THREE, 1: (0, 1), 2: (0, 1)}},
                   {"begins": {0: 0, 1: 1, 3: 1}, "circles": {0: THREE, 1: (0, 1), 3: (0, 1)}}]
        words = set()
        for change in changes:
            # no house is up, and no disk tells anything: the epochs alone are looked at
            empty = {number: Book.fresh().disk for number in range(9)}
            later = with_parts(world, houses={number: None for number in range(9)}, fallen=empty, answers={}, **change)
            self.assertEqual(fault(later), plain_fault(later))
            words.add(fault(later))
        self.assertLessEqual({("states",)}, words)
        self.assertNotIn(None, words)
        alone = with_parts(world, houses={number: None for number in range(9)}, fallen=empty, answers={})
        self.assertIsNone(fault(alone))
        for change in changes[:4]:
            self.assertEqual(fault(with_parts(alone, **change))[0], "states")

    def test_answers_of_other_places(self):
        world = World(THREE, 2, fold=12)
        for client, deed in ((0, PUT), (1, PUT), (0, ("get", "a")), (1, ("put", "a", 9)), (0, ("get", "b"))):
            world = world.done(("call", client, deed))
            world = world.run(calm(world, THREE))
        self.assertEqual(len(world.answers), 5)
        self.assertIsNone(fault(world))
        for told in world.answers:
            for length in range(6):
                for answer in (told[2], ("is", 1), ("is", None), ("was", 1)):
                    other = told[:2] + (answer, length)
                    answers = [row for row in world.answers if row != told] + [other]
                    later = with_parts(world, answers={row: True for row in answers})
                    self.assertEqual(fault(later), plain_fault(later))
        self.assertEqual(fault(with_parts(world, answers={(0, 1, ("was", None), 0): True})), ("answers", 0))
        self.assertEqual(fault(with_parts(world, answers={(0, 1, ("was", None), 2): True})), ("answers", 0))
        self.assertEqual(fault(with_parts(world, answers={(0, 2, ("is", 1), 0): True})), ("answers", 0))
        self.assertIsNone(fault(with_parts(world, answers={(0, 2, ("is", None), 0): True})))

    def test_houses_out_of_the_circle(self):
        # two halves that begin the next epoch with circles of their own
        world = World((0, 1, 2, 3), 2, without="half")
        for pair in ((0, 1), (2, 3)):
            client = pair[0] // 2
            world = world.done(("call", client, ("circle", pair))).done(("lose", len(world.bag)))
            while not (world.houses[pair[0]].facts.epoch == 1 and world.houses[pair[0]].role == "leads"):
                at = [index for number in pair for index in world.bag.to_house(number) if world.bag.letters[index][2] in pair]
                busy = [number for number in pair if world.houses[number].held or world.houses[number].pending]
                if busy:
                    world = world.done(("sync", busy[0]))
                elif at:
                    world = world.done(("take", at[0]))
                elif world.houses[pair[0]].role == "leads":
                    world = world.run((("again", client, pair[0]), ("take", len(world.bag))))
                else:
                    world = world.done(("beat", pair[0]))
            world = world.done(("sync", pair[0]))
        self.assertEqual((world.begins[1], world.circles[1]), (1, (0, 1)))
        self.assertEqual({house for epoch, _, house in world.votes if epoch == 1} & {2, 3}, {2})
        picture = picture_of(world, 1)
        self.assertEqual((picture.circle, set(picture.votes)), ((0, 1), {0, 1}))
        self.assertEqual(fault(world), plain_fault(world))
        self.assertEqual(fault(world)[:2], ("lots", 0))

    def test_states_of_houses_and_epochs(self):
        world = self.world()
        # an epoch that begins where none ends
        later = with_parts(world, begins={0: 0, 1: 2}, circles={0: THREE, 1: THREE})
        self.assertEqual(fault(later), ("states",))
        later = with_parts(world, begins={0: 0, 2: 2}, circles={0: THREE, 2: THREE})
        self.assertEqual(fault(later), ("states",))
        # a house that has decided more than is chosen
        votes = {key: min(many, 1) for key, many in world.votes.items()}
        later = with_parts(world, votes=votes)
        self.assertEqual(fault(later), plain_fault(later))
        self.assertIsNotNone(fault(later))


if __name__ == "__main__":
    unittest.main()
