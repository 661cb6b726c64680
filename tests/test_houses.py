import itertools
import unittest

from halvesmeet.disk.blocks import Disk
from halvesmeet.disk.halves import Book
from halvesmeet.disk.journal import blocks_of
from halvesmeet.errors import InvalidCircle, InvalidDisk, InvalidLetter, InvalidNumber, InvalidOperation
from halvesmeet.house.asking import asked, taken_ask, taken_bar, taken_grant
from halvesmeet.house.epochs import carries, ended, has_begun, of_other_epoch, taken_carry
from halvesmeet.house.facts import Facts, begin, facts_of_records, fold, records_of_facts
from halvesmeet.house.houses import House
from halvesmeet.house.laying import lay_letter, taken_laid, taken_lay
from halvesmeet.house.memory import RULES, Memory
from halvesmeet.house.serving import taken_deed
from halvesmeet.net.letters import is_letter, receiver
from halvesmeet.store.states import State
from support import THREE, Parameter, check_errors, kind_of_error, number_from, odd_values, parts_of_all, shown
from test_deeds import is_right_circle
from test_epochs import carry, letters_of
from test_facts import entries_from
from test_laying import lay_of
from turning import FIRST, WITHOUT

NEXT = (1, 2, 4)
STOP = (0, 9, ("circle", NEXT))
FOLD = Parameter(6, number_from(1, 12), InvalidNumber, "fold")
NUMBER = Parameter(1, number_from(0, 8), InvalidNumber)


def parts_of(house):
    return (house.number, house.book, house.facts, house.memory, house.held, house.pending, house.fold, house.without)


def house_with(facts, number=1, **keywords):
    """A house that has risen with some facts."""
    disk = Book.fresh().turned(records_of_facts(facts)).synced().disk
    return House.risen(number, disk, **keywords)


def lead(number=1, circle=THREE, **keywords):
    """A house that leads its first term, with nothing held, by its own grant and that of all others."""
    house = House.fresh(number, circle, **keywords)
    while house.role != "asks":
        house = house.beaten()
    term = house.memory.term
    house = house.taken(house.held[circle.index(number)]).synced()[0]
    for other in circle:
        if house.role != "leads":
            house = house.taken(("grant", 0, other, number, term, -1, 0, None, 0, ()))
    house = house if house.role == "leads" else house.taken(("grant", 0, number, number, term, -1, 0, None, 0, ()))
    return house.synced()[0]


def laid_by(house, other, length=None, heard=0):
    """The letter by which another house tells what it has laid."""
    return ("laid", house.facts.epoch, other, house.number, house.memory.term, house.facts.length if length is None else length, heard)


def put_of(client, number, house=1):
    return "deed", client, house, number, ("put", "a", number)


def behind(house, turn):
    """The parts of a house behind a turn, without anything else that the event brings."""
    records, memory, facts, letters = turn
    book = house.book
    for record in records:
        book = book.added(record) if book.half is not None else book.turned((record,))
    return (house.number, book, facts, memory, house.held + letters, house.pending + records, house.fold, house.without)


class HouseTest(unittest.TestCase):
    def check(self, house, letter, turn):
        """Checks that a house is just behind a turn when it takes a letter."""
        before = shown(vars(house))
        self.assertEqual(parts_of(house.taken(letter)), behind(house, turn))
        self.assertEqual(shown(vars(house)), before)

    def check_same(self, house, letter):
        self.check(house, letter, ((), house.memory, house.facts, ()))


class MakingTest(HouseTest):
    def test_fresh(self):
        for number in range(9):
            house = House.fresh(number)
            self.assertEqual(parts_of(house), (number, Book.fresh(), None, Memory(FIRST, {"role": "rests"}), (), (), 6, None))
            self.assertEqual((house.role, house.decided, str(house)), ("rests", 0, f"house {number} rests"))

    def test_fresh_with_a_circle(self):
        for number in THREE:
            facts, record = begin(None, 0, THREE, FIRST)
            house = House.fresh(number, THREE, fold=12, without="half")
            book = Book.fresh().turned((record,)).synced()
            self.assertEqual(parts_of(house), (number, book, facts, Memory(FIRST), (), (), 12, "half"))
            self.assertEqual(house.book.disk.waiting, ())
            self.assertEqual(str(house), f"house {number} hears, epoch 0, term -1 of -1, row 0 + 0")
        for circle in ((0, 2), (8,)):
            self.assertEqual(kind_of_error(House.fresh, [1, circle]), (InvalidCircle, None))

    def test_errors_of_fresh(self):
        circles = Parameter(THREE, lambda value: value is None or (is_right_circle(value) and 1 in value), InvalidCircle)
        check_errors(self, House.fresh, [NUMBER, circles, FOLD, WITHOUT])
        for many in (0, 13, True, None):
            self.assertEqual(kind_of_error(House.fresh, [1], {"fold": many}), (InvalidNumber, many))
        for many, rule in itertools.product((1, 12), (None,) + RULES):
            self.assertEqual((House.fresh(1, fold=many, without=rule).fold, House.fresh(1, fold=many, without=rule).without), (many, rule))

    def test_risen(self):
        for facts in (Facts(2, THREE, 5, 4, FIRST.run(entries_from(2)), entries_from(3, 2)), Facts.begun(0, (1,), FIRST)):
            disk = Book.fresh().turned(records_of_facts(facts)).synced().disk
            house = House.risen(1, disk, fold=2, without="round")
            self.assertEqual(parts_of(house), (1, Book(disk), facts, Memory.risen(facts), (), (), 2, "round"))
        self.assertEqual(House.risen(5, Disk.empty(194)), House.fresh(5))
        stopped = FIRST.run((STOP,))
        self.assertEqual(house_with(Facts(2, THREE, 5, 4, stopped, ())).role, "over")

    def test_errors_of_risen(self):
        disk = House.fresh(1, THREE).book.disk
        # a disk with another number of places, or with something that waits, comes behind the errors of all arguments
        odd = Parameter(disk, lambda value: isinstance(value, Disk), InvalidDisk)
        check_errors(self, House.risen, [NUMBER, odd, FOLD, WITHOUT])
        for wrong in (Disk.empty(193), Disk.empty(195), disk.put(0, None), Disk.empty(194).put(193, None), Disk.empty(3).put(0, None)):
            self.assertEqual(kind_of_error(House.risen, [1, wrong]), (InvalidOperation, None))
            self.assertEqual(kind_of_error(House.risen, [1, wrong], {"fold": 13}), (InvalidNumber, 13))
        for number in (3, 8):
            self.assertEqual(kind_of_error(House.risen, [number, disk]), (InvalidOperation, None))
        for number in THREE:
            self.assertIsNone(kind_of_error(House.risen, [number, disk]))

    def test_up_to_the_first_that_is_no_step(self):
        facts, record = begin(None, 0, THREE, FIRST)
        book = Book.fresh().turned((record, (("promise", 4),), (("promise", 4),), (("promise", 9),))).synced()
        house = House.risen(1, book.disk)
        self.assertEqual((house.facts, house.book), (Facts.begun(0, THREE, FIRST, 4), Book(book.disk)))
        nothing = Book.fresh().turned(((("promise", 4),), record)).synced()
        self.assertEqual((House.risen(1, nothing.disk).facts, House.risen(1, nothing.disk).role), (None, "rests"))
        many = Book.fresh().turned(((("promise", 4),),) * 60).synced()
        self.assertEqual((House.risen(1, many.disk).facts, House.risen(1, many.disk).book.disk.waiting), (None, ()))

    def test_the_rule_life(self):
        first = begin(None, 0, THREE, FIRST)[1]
        book = Book.fresh().turned((first,)).synced().added((("promise", 4),)).synced()
        # behind what counts lies a record of a life that is over
        old = blocks_of(1, 2, (("promise", 6),))[0]
        disk = book.disk.put(4, old).synced()
        self.assertEqual([House.risen(1, disk, without=rule).facts.promised for rule in (None, "life", "sync", "carry")], [4, 6, 4, 4])

    def test_equality(self):
        house = lead()
        houses = [House.fresh(1), House.fresh(2), House.fresh(1, THREE), House.fresh(1, (1, 2)), House.fresh(1, fold=7),
                  House.fresh(1, without="life"), house, house.beaten(), house.taken(put_of(0, 1)), house.taken(put_of(0, 1)).synced()[0],
                  house.taken(put_of(0, 1)).released()[0]]
        for i, one in enumerate(houses):
            for j, other in enumerate(houses):
                self.assertEqual([one == other, one != other], [i == j, i != j])
        for value in odd_values():
            if not isinstance(value, House):
                self.assertEqual([houses[1] == value, houses[1] != value], [False, True])
        self.assertEqual(House.fresh(1, THREE), House.fresh(1, THREE, fold=6, without=None))

    def test_text(self):
        house = lead().taken(put_of(0, 1))
        self.assertEqual(str(house), "house 1 leads, epoch 0, term 1 of 1, row 0 + 1")
        self.assertEqual(str(House.risen(1, house.synced()[0].book.disk)), "house 1 hears, epoch 0, term 1 of 1, row 0 + 1")


class LettersTest(HouseTest):
    def test_errors(self):
        house = House.fresh(1, THREE)
        check_errors(self, house.taken, [Parameter(("begun", 0, 0, 1), is_letter, InvalidLetter)])
        for letter in (("begun", 0, 1, 2), ("deed", 1, 2, 1, ("get", "a")), ("answer", 1, 1, 1, ("full",), 0), ("try", 1, 1, 1, None, 0, THREE)):
            self.assertEqual(kind_of_error(house.taken, [letter]), (InvalidOperation, None))
        self.assertEqual(kind_of_error(House.fresh(1).taken, [("begun", 0, 1, 2)]), (InvalidOperation, None))

    def test_a_house_without_an_epoch(self):
        for number in range(3):
            house = House.fresh(number)
            for letter in letters_of(0, 1, number) + letters_of(4, 8, number) + (put_of(0, 1, number), ("deed", 0, number, 1, ("get", "a"))):
                self.check_same(house, letter)
            self.check_same(house, carry(0, 1, number, (7, 8), FIRST, -1))
            self.assertEqual(house.beaten(), house)
        letter = carry(3, 0, 1, NEXT, FIRST.run(entries_from(3)), 6)
        house = House.fresh(1)
        self.check(house, letter, taken_carry(None, house.memory, 1, letter))
        later = house.taken(letter)
        # the first record is put by turning
        self.assertEqual((later.book.half, later.book.records, later.held), (0, later.pending, (("begun", 3, 1, 0),)))
        self.assertEqual((later.facts.epoch, later.role, later.memory.floor), (3, "hears", 6))

    def test_each_word_to_each_role(self):
        facts = Facts(3, THREE, 5, 4, FIRST, entries_from(3))
        takings = {"ask": taken_ask, "grant": taken_grant, "bar": taken_bar, "lay": taken_lay, "laid": taken_laid}
        for role, rule in itertools.product(("hears", "asks", "leads"), (None, "promise", "half")):
            house = house_with(facts, without=rule)
            memory = house.memory.but({"role": role, "term": 4, "opening": 1, "laid": {0: 1}, "at": {2: 0}})
            house = with_memory(house, memory)
            for goal in THREE:
                learned = memory if goal == 1 else has_begun(facts, memory, goal)
                for letter in letters_of(3, goal, 1):
                    word = letter[0]
                    if word == "begun":
                        turn = (), learned, facts, ()
                    elif word == "lay" and goal == 1:
                        turn = (), memory, facts, ()
                    elif word == "bar":
                        turn = taken_bar(facts, learned, 1, letter)
                    else:
                        turn = takings[word](facts, learned, 1, letter, without=rule)
                    self.check(house, letter, turn)

    def test_from_out_of_the_circle(self):
        house = lead()
        for goal in range(3, 9):
            for letter in letters_of(0, goal, 1):
                self.check_same(house, letter)

    def test_deeds(self):
        facts = Facts(3, THREE, 5, 4, FIRST, entries_from(3))
        house = house_with(facts)
        for deed in (("get", "a"), ("put", "a", 1), ("circle", NEXT)):
            letter = ("deed", 2, 1, 7, deed)
            self.check(house, letter, ((), house.memory, facts, (("try", 1, 2, 7, None, 3, THREE),)))
            led = lead()
            self.check(led, letter, taken_deed(led.facts, led.memory, 1, letter))

    def test_other_epochs(self):
        house = house_with(Facts(3, THREE, 5, 4, FIRST, entries_from(3)))
        for epoch, goal in itertools.product((0, 2, 4, 9), (0, 1, 2, 8)):
            for letter in letters_of(epoch, goal, 1):
                memory, letters = of_other_epoch(house.facts, house.memory, 1, letter)
                self.check(house, letter, ((), memory, house.facts, letters))

    def test_a_house_whose_epoch_is_over(self):
        facts = Facts(3, THREE, 5, 4, FIRST.run(entries_from(1) + (STOP,)), ())
        house = house_with(facts, 0)
        self.assertEqual(house.role, "over")
        for epoch, goal in itertools.product((0, 2, 3, 4, 9), (0, 1, 4, 8)):
            for letter in letters_of(epoch, goal, 0):
                memory, letters = of_other_epoch(facts, house.memory, 0, letter)
                self.check(house, letter, ((), memory, facts, letters))
        letter = carry(4, 1, 0, (0, 1), FIRST, 7)
        self.check(house, letter, taken_carry(facts, house.memory, 0, letter))
        self.check(house, put_of(2, 7, 0), ((), house.memory, facts, (("try", 0, 2, 7, None, 4, NEXT),)))

    def test_carries(self):
        house = house_with(Facts(3, THREE, 5, 4, FIRST, entries_from(3)), without="carry")
        plain = house_with(Facts(3, THREE, 5, 4, FIRST, entries_from(3)))
        for epoch, circle, goal in itertools.product((2, 3, 4), (THREE, NEXT, (0, 2)), (0, 1, 8)):
            letter = carry(epoch, goal, 1, circle, FIRST.run(entries_from(2)), 6)
            self.check(plain, letter, taken_carry(plain.facts, plain.memory, 1, letter))
            self.check(house, letter, taken_carry(house.facts, house.memory, 1, letter, without="carry"))

    def test_what_a_letter_teaches(self):
        house = lead(1, (0, 1, 2, 3, 4))
        self.assertEqual(house.memory.joined, (0, 2))
        self.assertEqual(house.taken(("begun", 0, 4, 1)).memory.joined, (0, 2, 4))
        self.assertEqual(house.taken(("begun", 0, 1, 1)), house)
        self.assertEqual(house.taken(("begun", 0, 8, 1)), house)


def with_memory(house, memory):
    """The house with another memory: no row of events would lead to some of them."""
    later = House(house.number, house.book, house.facts, memory, (house.fold, house.without))
    return later


class AnswersTest(HouseTest):
    def test_answers_come_behind_the_letters(self):
        house = lead().taken(put_of(0, 1)).taken(put_of(2, 5)).synced()[0]
        house = house.taken(laid_by(house, 1))
        self.assertEqual((house.decided, house.held), (0, ()))
        later = house.taken(laid_by(house, 0))
        self.assertEqual((later.decided, later.held), (2, (("answer", 1, 0, 1, ("was", None), 1), ("answer", 1, 2, 5, ("was", 1), 2))))
        again = later.synced()[0].taken(laid_by(house, 2, 1))
        # just what is decided newly is answered
        self.assertEqual([letter[0] for letter in again.held], ["lay"])

    def test_part_of_the_row(self):
        house = lead().taken(put_of(0, 1)).taken(put_of(2, 5)).synced()[0]
        house = house.taken(laid_by(house, 1)).taken(laid_by(house, 2, 1))
        self.assertEqual([letter[:4] for letter in house.held], [("lay", 0, 1, 2), ("answer", 1, 0, 1)])
        later = house.taken(laid_by(house, 0))
        self.assertEqual(later.held[2:], (("answer", 1, 2, 5, ("was", 1), 2),))

    def test_reads(self):
        house = lead().taken(put_of(0, 1)).taken(("deed", 2, 1, 5, ("get", "a"))).synced()[0]
        self.assertEqual(house.memory.round, 1)
        house = house.taken(laid_by(house, 1, heard=1))
        self.assertEqual((house.held, len(house.memory.reads)), ((), 1))
        # decided and read by the same letter: the answer to the deed stands ahead
        later = house.taken(laid_by(house, 0, heard=1))
        self.assertEqual((later.held, later.memory.reads), ((("answer", 1, 0, 1, ("was", None), 1), ("answer", 1, 2, 5, ("is", 1), 1)), ()))
        # the round alone is heard: the read sees what is decided
        other = house.taken(laid_by(house, 0, length=0, heard=1))
        self.assertEqual([letter[0] for letter in other.held], ["lay", "answer"])
        self.assertEqual(other.held[1], ("answer", 1, 2, 5, ("is", None), 0))

    def test_who_leads_no_more_answers_nothing(self):
        house = lead().taken(put_of(0, 1)).taken(("deed", 2, 1, 5, ("get", "a"))).synced()[0]
        later = house.taken(lay_of(2, (None, 0, house.facts.entries), decided=1, heard=4))
        self.assertEqual((later.role, later.decided, later.memory.reads), ("hears", 1, ()))
        self.assertEqual(later.held, (("laid", 0, 1, 2, 2, 1, 4),))

    def test_the_rule_round(self):
        house = lead(without="round").taken(("deed", 2, 1, 5, ("get", "a")))
        self.assertEqual(house.held, (("answer", 1, 2, 5, ("is", None), 0),))


def decided_house(many, **keywords):
    """A house that leads, and has just decided so many entries."""
    house = lead(**keywords)
    for number in range(1, many + 1):
        house = house.taken(put_of(0, number)).synced()[0]
    for other in (1, 0):
        house = house.taken(laid_by(house, other)).synced()[0]
    return house


class WaitingTest(HouseTest):
    def test_folding_is_done_first(self):
        for many in range(1, 13):
            for decided in (many - 1, many, many + 1):
                if decided == 0:
                    continue
                house = decided_house(decided, fold=many)
                self.assertEqual((house.facts.base.length, house.decided), (0, decided))
                for later in (house.beaten(), house.taken(("begun", 0, 0, 1)), house.taken(put_of(3, 1)), house.taken(("begun", 0, 8, 1))):
                    if decided >= many:
                        self.assertEqual(later.pending[0], (("fold", decided),))
                        self.assertEqual((later.facts.base.length, later.decided), (decided, decided))
                    else:
                        self.assertEqual(later.facts.base, FIRST)
                        self.assertFalse([record for record in later.pending if record[0][0] == "fold"])

    def test_folding_and_a_lay_in_their_sequence(self):
        house = decided_house(2, fold=2)
        later = house.taken(put_of(3, 1))
        self.assertEqual(later.pending, ((("fold", 2),), (("lay", 1, 2, 0), (3, 1, ("put", "a", 1)))))
        self.assertEqual(later.book.records, house.book.records + later.pending)
        self.assertEqual(facts_of_records(later.book.records), later.facts)

    def stopped(self, number):
        """A house of THREE that leads, and has just decided a stop."""
        house = lead(number).taken(("deed", 0, number, 1, ("circle", NEXT))).synced()[0]
        for other in sorted({number, (number + 1) % 3}):
            house = house.taken(laid_by(house, other)).synced()[0]
        self.assertEqual((house.role, house.decided, house.memory.state.next), ("leads", 1, NEXT))
        return house

    def test_the_end_of_an_epoch_is_done_first(self):
        for number in THREE:
            house = self.stopped(number)
            turn = ended(house.facts, house.memory, number)
            for letter in (("begun", 0, 0, number), put_of(3, 1, number), ("begun", 1, 4, number), ("ask", 1, 2, number, 4, 0)):
                later = house.taken(letter)
                waited = with_parts(house, turn)
                self.assertEqual(later, waited.taken(letter))
                self.assertEqual((later.facts.epoch, later.role), (0, "over") if number == 0 else (1, "hears"))
            self.assertEqual(house.beaten(), with_parts(house, turn).beaten())
        # nothing more waits, and nothing is folded, when it is over
        over = self.stopped(0).beaten()
        self.assertEqual((over.facts.base.length, over.beaten().beaten().facts, over.beaten().role), (0, over.facts, "over"))

    def test_a_beat_behind_the_end(self):
        house = self.stopped(0).beaten()
        self.assertEqual(house.memory.counter, 1)
        self.assertEqual(house.held, carries(house.facts, house.memory, 0))
        self.assertEqual([letter[:4] for letter in house.held], [("carry", 1, 0, 1), ("carry", 1, 0, 2), ("carry", 1, 0, 4)])
        begun = self.stopped(1).beaten()
        self.assertEqual([letter[:4] for letter in begun.held], [("carry", 1, 1, 2), ("carry", 1, 1, 4)])
        self.assertEqual((begun.pending[0][0], begun.memory.counter), (("begin", 1, NEXT, -1), 1))


def with_parts(house, turn):
    """The house behind a turn, made by hand."""
    later = House(*behind(house, turn)[:4], (house.fold, house.without))
    later._held, later._pending = behind(house, turn)[4:6]
    return later


class RoomTest(HouseTest):
    def full_book(self, room):
        """A house that hears, with just so many free blocks in its half, and nothing else to do."""
        house = House.fresh(1, THREE)
        term = 0
        while house.book.used < 96 - room:
            term += 1
            house = house.taken(("ask", 0, 2, 1, term, 0))
        return house

    def test_a_record_that_finds_no_room(self):
        for room in (1, 2, 3):
            house = self.full_book(room)
            letter = lay_of(10 ** 6, (None, 0, entries_from(16)))
            later = house.taken(letter)
            # 17 items need three blocks
            if room < 3:
                self.assertEqual(later, house)
            else:
                self.assertEqual((later.book.used, later.facts.length), (96, 16))
        house = self.full_book(0)
        for letter in (("ask", 0, 2, 1, 10 ** 6, 0), lay_of(10 ** 6, (None, 0, ())), carry(1, 2, 1, NEXT, FIRST, -1)):
            self.assertEqual(house.taken(letter), house)
        # what needs no record is done
        self.assertEqual(house.taken(("begun", 0, 2, 1)), house)
        self.assertEqual(len(house.taken(("ask", 0, 2, 1, house.facts.promised, 0)).held), len(house.held) + 1)
        self.assertEqual(house.synced()[0].taken(("ask", 0, 2, 1, 10 ** 6, 0)).facts.promised, 10 ** 6)

    def test_nothing_of_an_event_is_done(self):
        # the folding that waits is not done either if the lay finds no room
        house = decided_house(1, fold=1)
        while house.book.used < 95:
            house = with_book(house, house.book.added((("promise", 7),)))
        self.assertEqual(house.facts.base.length, 0)
        # one block is free: for the fold, but not for the lay behind it
        self.assertEqual(house.taken(put_of(2, 1)), house)
        self.assertEqual(house.beaten().facts.base.length, 1)
        full = with_book(house, house.book.added((("promise", 7),)))
        self.assertEqual((full.beaten(), full.taken(("begun", 0, 2, 1))), (full, full))

    def test_a_lay_that_cannot_be_done(self):
        facts = Facts(0, THREE, 5, 5, FIRST, entries_from(2))
        house = house_with(facts)
        for letter in (lay_of(5, (None, 1, entries_from(64, 1))), lay_of(6, (None, 0, (STOP, STOP)))):
            self.assertEqual(house.taken(letter), house)
        self.assertNotEqual(house.taken(lay_of(5, (None, 1, entries_from(63, 1)))), house)

    def test_a_deed_without_room_in_the_row(self):
        facts = Facts(0, (1,), 0, 0, FIRST, entries_from(64))
        memory = Memory(FIRST, {"role": "leads", "term": 0})
        for decided in (11, 12, 53, 64):
            house = with_memory(house_with(facts, fold=12), memory.but({"state": facts.state_at(decided)}))
            later = house.taken(put_of(3, 1))
            # too many entries are open, or what is decided is folded first
            self.assertEqual(later.facts.base.length, decided if decided >= 12 else 0)
            self.assertEqual([letter[0] for letter in later.held], ["laid"] if decided >= 53 else ["try"])


def with_book(house, book):
    return House(house.number, book, house.facts, house.memory, (house.fold, house.without))


class BeatTest(HouseTest):
    def test_patience(self):
        for circle in ((1,), THREE, (0, 1, 2, 3, 4)):
            for number in circle:
                house = House.fresh(number, circle)
                place = circle.index(number)
                for beat in range(1, 3 + place):
                    house = house.beaten()
                    self.assertEqual((house.role, house.held, house.memory.counter), ("hears", (), beat))
                _, memory, _, letters = asked(house.facts, house.memory, number)
                house = house.beaten()
                self.assertEqual((house.memory, house.held, house.pending), (memory, letters, ()))
                # who asks waits just as long
                for _ in range(2 + place):
                    house = house.beaten()
                    self.assertEqual((house.memory.term, house.held), (memory.term, letters))
                self.assertEqual(house.beaten().memory.term, memory.term + len(circle))

    def test_who_leads(self):
        house = lead(1, (0, 1, 2, 3, 4)).taken(put_of(0, 1)).synced()[0]
        house = house.taken(("laid", 0, 3, 1, 1, 0, 0)).synced()[0].taken(("deed", 4, 1, 1, ("get", "a"))).synced()[0]
        self.assertEqual((house.memory.at, house.memory.laid, house.memory.round), ({0: 0, 1: 0, 2: 0}, {3: 0}, 1))
        for beat in range(1, 9):
            house = house.synced()[0].beaten()
            self.assertEqual((house.role, house.memory.counter, house.pending), ("leads", beat, ()))
            wished = [("laid", 0, 1, 1, 1, 1, 1)] + [lay_letter(house.facts, house.memory, 1, goal) for goal in (0, 2, 3)] + [("ask", 0, 1, 4, 1, 0)]
            self.assertEqual(house.held, tuple(wished))

    def test_whole(self):
        for rule, many in ((None, 3), ("whole", 2), ("half", 3)):
            house = lead(without=rule)
            for number in (1, 2, 3):
                house = house.taken(put_of(0, number))
            held = house.synced()[0].beaten().held
            self.assertEqual([len(letter[8]) for letter in held if letter[0] == "lay"], [many])

    def test_in_a_later_epoch(self):
        facts = Facts(3, THREE, 5, 4, FIRST, entries_from(2))
        house = house_with(facts)
        for _ in range(3):
            house = house.synced()[0].beaten()
            self.assertEqual(house.held, carries(facts, house.memory, 1))
            self.assertEqual(len(house.held), 2)
        house = house.synced()[0].beaten()
        self.assertEqual([letter[0] for letter in house.held], ["ask"] * 3 + ["carry"] * 2)
        house = house.taken(("begun", 3, 2, 1)).synced()[0].beaten()
        self.assertEqual([letter[:4] for letter in house.held], [("carry", 3, 1, 0)])
        house = house.taken(("begun", 3, 0, 1)).synced()[0].beaten()
        self.assertEqual(house.held, ())

    def test_a_house_that_is_over(self):
        facts = Facts(3, THREE, 5, 4, FIRST.run(entries_from(1) + (STOP,)), ())
        house = house_with(facts, 0)
        for beat in range(1, 9):
            house = house.synced()[0].beaten()
            self.assertEqual((house.role, house.memory.counter), ("over", beat))
            self.assertEqual([letter[:4] for letter in house.held], [("carry", 4, 0, goal) for goal in NEXT])
        house = house.taken(("begun", 4, 2, 0)).synced()[0].beaten()
        self.assertEqual([letter[3] for letter in house.held], [1, 4])


class SyncTest(HouseTest):
    def test_what_is_held_goes(self):
        house = lead().taken(put_of(0, 1)).beaten()
        self.assertEqual((len(house.pending), len(house.held)), (1, 4))
        later, letters = house.synced()
        self.assertEqual(letters, house.held)
        self.assertEqual(parts_of(later), (1, house.book.synced(), house.facts, house.memory, (), (), 6, None))
        self.assertEqual(later.synced(), (later, ()))

    def test_released(self):
        house = lead().taken(put_of(0, 1))
        later, letters = house.released()
        self.assertEqual(letters, house.held)
        self.assertEqual(parts_of(later), (1, house.book, house.facts, house.memory, (), house.pending, 6, None))
        self.assertEqual(len(later.book.disk.waiting), 1)

    def test_a_full_book_turns(self):
        house = House.fresh(1, THREE)
        for term in range(1, 60):
            house = house.taken(("ask", 0, 2, 1, term, 0))
            used = house.book.used
            self.assertEqual(used, term + 1)
            later = house.synced()[0]
            if used > 48:
                self.assertEqual(later.book, house.book.synced().turned(records_of_facts(house.facts)))
                self.assertEqual((later.book.used, later.pending, len(later.book.disk.waiting)), (1, (), 2))
                self.assertEqual(house.released()[0].book, house.book)
            else:
                self.assertEqual(later.book, house.book.synced())

    def test_a_full_book_turns_as_the_house_rises(self):
        for many in (47, 48, 49):
            house = House.fresh(1, THREE)
            for term in range(1, many):
                house = house.taken(("ask", 0, 2, 1, term, 0))
            disk = house.fallen(tuple(range(many - 1)))
            risen = House.risen(1, disk)
            wished = Book(disk)
            self.assertEqual(wished.used, many)
            self.assertEqual(risen.book, wished.turned(records_of_facts(house.facts)) if many > 48 else wished)
            self.assertEqual((risen.facts, risen.held, risen.pending), (house.facts, (), ()))


class FallTest(HouseTest):
    def test_errors_of_fallen(self):
        house = lead().taken(put_of(0, 1)).taken(put_of(2, 1))
        for kept in ((2,), (-1,), (1, 0), (0, 0), [0], None, 0, (True,)):
            self.assertEqual(kind_of_error(house.fallen, [kept]), (InvalidOperation, None))
        self.assertEqual(house.fallen((0, 1)), house.book.disk.synced())

    def test_each_part_of_the_puts(self):
        for sure in range(3):
            house = lead(fold=2)
            for number in range(1, sure + 1):
                house = house.taken(put_of(0, number))
                house = house.synced()[0]
            told = [house.facts]
            for event in (put_of(2, 1), put_of(3, 1), ("ask", 0, 2, 1, 5, 0), lay_of(8, (None, 0, entries_from(7)), decided=4), ("begun", 0, 2, 1)):
                house = house.taken(event)
                told.append(house.facts)
            self.assertEqual(told[-1].base.length, 4)
            puts = house.book.disk.waiting
            seen = []
            for kept in parts_of_all(puts):
                disk = house.fallen(kept)
                risen = House.risen(1, disk, fold=2)
                self.assertIn(risen.facts, told)
                self.assertEqual((risen.held, risen.pending, risen.memory), ((), (), Memory.risen(risen.facts)))
                seen.append(told.index(risen.facts))
                if kept == ():
                    self.assertEqual(risen.facts, told[0])
            self.assertEqual(set(seen), set(range(len(told))))
            self.assertEqual(House.risen(1, house.fallen(tuple(range(len(puts))))).facts, told[-1])

    def test_across_turning(self):
        house = House.fresh(1, THREE)
        for term in range(1, 50):
            house = house.taken(("ask", 0, 2, 1, term, 0))
        turned = house.synced()[0]
        later = turned.taken(("ask", 0, 2, 1, 70, 0)).taken(lay_of(80, (None, 0, entries_from(9))))
        told = [turned.facts, turned.taken(("ask", 0, 2, 1, 70, 0)).facts, later.facts]
        self.assertEqual(len(later.book.disk.waiting), 5)
        for kept in parts_of_all(later.book.disk.waiting):
            risen = House.risen(1, later.fallen(kept))
            self.assertIn(risen.facts, told)
            # rising twice is rising once, whatever part of what it put by turning is kept
            for more in parts_of_all(risen.book.disk.waiting):
                again = House.risen(1, risen.fallen(more))
                self.assertEqual((again.facts, again.memory), (risen.facts, risen.memory))

    def test_the_first_record_of_a_house(self):
        house = House.fresh(1).taken(carry(3, 0, 1, NEXT, FIRST.run(entries_from(3)), 6))
        for kept in parts_of_all(house.book.disk.waiting):
            risen = House.risen(1, house.fallen(kept))
            self.assertEqual(risen.facts, house.facts if len(kept) == 2 else None)

    def test_what_is_forgotten(self):
        house = lead().taken(put_of(0, 1)).beaten()
        risen = House.risen(1, house.synced()[0].fallen(()))
        self.assertEqual((risen.facts, risen.role, risen.held, risen.memory), (house.facts, "hears", (), Memory(FIRST, {"floor": 1})))

    def test_without_sync_a_fall_loses_what_was_said(self):
        house = lead(without="sync").taken(put_of(0, 1))
        later, letters = house.released()
        self.assertEqual(letters[0], ("laid", 0, 1, 1, 1, 1, 0))
        self.assertEqual(House.risen(1, later.fallen(()), without="sync").facts.length, 0)


class NotTrueTest(HouseTest):
    def test_a_house_that_rises_has_decided_all_that_it_had(self):
        house = lead().taken(put_of(0, 1)).synced()[0]
        house = house.taken(laid_by(house, 1)).taken(laid_by(house, 0)).synced()[0]
        self.assertEqual((house.decided, House.risen(1, house.fallen(())).decided), (1, 0))

    def test_who_takes_a_letter_twice_sends_nothing_at_the_second_time(self):
        house = House.fresh(1, THREE)
        letter = ("ask", 0, 2, 1, 5, 0)
        once = house.taken(letter).synced()[0]
        self.assertEqual(once.taken(letter).held, house.taken(letter).held)

    def test_receivers(self):
        house = lead().taken(put_of(0, 1)).beaten()
        self.assertEqual({receiver(letter) for letter in house.held}, {("house", 0), ("house", 1), ("house", 2)})


class PlainFoldTest(HouseTest):
    def test_the_folded_row(self):
        house = decided_house(6)
        later = house.beaten()
        self.assertEqual(later.facts, fold(house.facts, 6)[0])
        self.assertEqual(later.facts.base.parts(), State.parts(house.memory.state))


if __name__ == "__main__":
    unittest.main()
