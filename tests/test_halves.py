import random
import unittest

from halvesmeet.disk import halves as module
from halvesmeet.disk.blocks import Disk
from halvesmeet.disk.halves import Book, blocks_needed, is_mended, root_of
from halvesmeet.disk.journal import blocks_of, is_record
from halvesmeet.errors import InvalidDisk, InvalidNumber, InvalidOperation, InvalidRecord, Refused, TooMany
from support import Parameter, check_errors, is_row_of, kind_of_error, odd_values, parts_of_all

START, MORE = (("facts", 0),), (("promise", 3),)
LONG = tuple(("entry", at) for at in range(20))
RECORDS = Parameter((START,), is_row_of(is_record), InvalidRecord)
WITHOUT = Parameter(None, lambda value: value is None or type(value) is str, InvalidOperation, "without")


def sized(blocks, word="item"):
    """A record that needs so many blocks."""
    return tuple((word, at) for at in range(8 * blocks - 3))


def disk_of(places):
    """The disk with 194 places with some blocks, sure, at some places."""
    return Disk(tuple(places.get(at) for at in range(194)))


def placed(start, *rows):
    """Blocks one behind the other, from a place on."""
    return {start + at: block for at, block in enumerate(sum(rows, ()))}


def book_with(*records):
    """A book, risen, with these records."""
    return Book(Book.fresh().turned(records).synced().disk)


class RootsTest(unittest.TestCase):
    def test_constants(self):
        self.assertEqual([module.HALF, module.PLACES, module.FULL], [96, 194, 48])

    def check(self, places, root, records, life, half):
        disk = disk_of(places)
        book = Book(disk)
        self.assertEqual(root_of(disk), root)
        self.assertEqual([book.records, book.life, book.half], [records, life, half])
        self.assertEqual(book.used, blocks_needed(records))

    def test_no_root(self):
        self.check({}, None, (), 1, None)
        # without a root there are no records, but their lives count
        self.check(placed(2, blocks_of(4, 0, START)), None, (), 5, None)
        self.check(placed(98, blocks_of(4, 0, START)), None, (), 5, None)
        self.check(placed(193, blocks_of(4, 7, START)), None, (), 5, None)

    def test_a_root_that_counts(self):
        places = {0: (4, 0, 1), **placed(2, blocks_of(4, 0, START))}
        self.check(places, (4, 0, 1), (START,), 5, 0)
        self.check({1: (4, 1, 1), **placed(98, blocks_of(4, 0, START))}, (4, 1, 1), (START,), 5, 1)
        self.check({1: (4, 1, 4), **placed(98, blocks_of(4, 0, LONG), blocks_of(4, 1, START))}, (4, 1, 4), (LONG, START), 5, 1)

    def test_records_behind_those_of_the_root(self):
        behind = placed(2, blocks_of(4, 0, START), blocks_of(5, 1, LONG), blocks_of(5, 2, MORE))
        self.check({0: (4, 0, 1), **behind}, (4, 0, 1), (START, LONG, MORE), 6, 0)
        lesser = placed(2, blocks_of(4, 0, START), blocks_of(3, 1, LONG), blocks_of(5, 2, MORE))
        self.check({0: (4, 0, 1), **lesser}, (4, 0, 1), (START,), 6, 0)
        self.assertEqual(Book(disk_of({0: (4, 0, 1), **lesser}), without="life").records, (START, LONG, MORE))
        for word in (None, "", "sync"):
            self.assertEqual(Book(disk_of({0: (4, 0, 1), **lesser}), without=word).records, (START,))

    def test_roots_that_do_not_count(self):
        rows = placed(2, blocks_of(4, 0, START), blocks_of(4, 1, LONG))
        for root in ((4, 1, 1), (4, 0, 2), (4, 0, 3), (4, 0, 5), (4, 0, 96), (3, 0, 1), (5, 0, 1), (5, 0, 4)):
            self.check({0: root, **rows}, None, (), max(root[0], 4) + 1, None)
        self.check({0: (4, 0, 4), **rows}, (4, 0, 4), (START, LONG), 5, 0)
        # all lives are those of the root: later ones count only behind its blocks
        mixed = placed(2, blocks_of(4, 0, START), blocks_of(5, 1, START))
        self.check({0: (4, 0, 2), **mixed}, None, (), 6, None)
        self.check({0: (4, 0, 1), **mixed}, (4, 0, 1), (START, START), 6, 0)
        # numbers begin with 0
        self.check({0: (4, 0, 1), **placed(2, blocks_of(4, 1, START))}, None, (), 5, None)

    def test_a_root_needs_no_life_rule_to_count(self):
        mixed = {0: (4, 0, 2), **placed(2, blocks_of(4, 0, START), blocks_of(3, 1, START))}
        self.assertEqual(Book(disk_of(mixed), without="life").records, ())

    def test_roots_that_are_none(self):
        rows = placed(2, blocks_of(4, 0, START))
        for root in ((4, 0), (4, 0, 1, 1), (4, 2, 1), (4, -1, 1), (4, 0, 0), (4, 0, 97), (0, 0, 1), (-4, 0, 1), ("a", 0, 1),
                     (4, None, 1), (4, (), 1), (99, 2, 1), (99, -1, 1), (99, 0, 0), (99, 0, 97), blocks_of(99, 0, START)[0]):
            self.check({0: root, **rows}, None, (), 5, None)
            self.check({0: root, 1: (4, 0, 1), **rows}, (4, 0, 1), (START,), 5, 0)

    def test_the_least_life(self):
        self.check({0: (1, 0, 1), **placed(2, blocks_of(1, 0, START))}, (1, 0, 1), (START,), 2, 0)

    def test_two_roots(self):
        both = {**placed(2, blocks_of(4, 0, START)), **placed(98, blocks_of(5, 0, MORE))}
        self.check({0: (4, 0, 1), 1: (5, 1, 1), **both}, (5, 1, 1), (MORE,), 6, 1)
        self.check({0: (5, 1, 1), 1: (4, 0, 1), **both}, (5, 1, 1), (MORE,), 6, 1)
        # one of a greater life that does not count is not taken, but its life counts
        self.check({0: (4, 0, 1), 1: (9, 1, 1), **both}, (4, 0, 1), (START,), 10, 0)
        equal = {**placed(2, blocks_of(4, 0, START)), **placed(98, blocks_of(4, 0, MORE))}
        self.check({0: (4, 0, 1), 1: (4, 1, 1), **equal}, (4, 0, 1), (START,), 5, 0)
        self.check({0: (4, 1, 1), 1: (4, 0, 1), **equal}, (4, 1, 1), (MORE,), 5, 1)

    def test_which_places_a_root_leaves_for_the_next_one(self):
        rows = {**placed(2, blocks_of(4, 0, START)), **placed(98, blocks_of(4, 0, MORE))}
        for roots, place in (({0: (4, 0, 1)}, 1), ({1: (4, 0, 1)}, 0), ({0: (4, 0, 1), 1: (4, 1, 1)}, 1), ({}, 0),
                             ({0: (5, 0, 1), 1: (4, 0, 1)}, 0), ({0: (4, 0, 1), 1: (9, 0, 7)}, 1), ({1: (9, 0, 7)}, 0)):
            turned = Book(disk_of({**roots, **rows})).turned((START,))
            self.assertEqual(turned.disk.waiting[-1], (place, (turned.life, turned.half, 1)))

    def test_as_each_place_reads_now(self):
        disk = disk_of(placed(2, blocks_of(4, 0, START))).put(0, (4, 0, 1))
        self.assertEqual([root_of(disk), Book(disk).records, root_of(disk.fallen(()))], [(4, 0, 1), (START,), None])
        self.assertEqual(Book(disk.put(2, None)).records, ())
        self.assertEqual(Book(disk.put(100, blocks_of(8, 3, START)[0])).life, 9)

    def test_the_whole_half(self):
        whole = sized(12) + (("a",),) * 3
        rows = (blocks_of(2, number, whole) for number in range(8))
        book = Book(disk_of({0: (2, 1, 96), **placed(98, *rows)}))
        self.assertEqual([book.used, len(book.records), book.is_full], [96, 8, True])
        self.assertEqual(kind_of_error(book.added, [START]), (TooMany, 96))
        self.assertEqual(book.turned((START,)).half, 0)


class BooksTest(unittest.TestCase):
    def test_fresh(self):
        book = Book.fresh()
        self.assertEqual([book.disk, book.records, book.half, book.used, book.life, book.is_full],
                         [Disk.empty(194), (), None, 0, 1, False])
        self.assertEqual(kind_of_error(book.added, [START]), (InvalidOperation, None))

    def test_adding(self):
        book = Book.fresh().turned((START, LONG)).synced()
        added = book.added(MORE)
        self.assertEqual(added.disk.waiting, ((6, (2, 2, 0, 1, MORE)),))
        self.assertEqual([added.records, added.used, added.life, added.half], [(START, LONG, MORE), 5, 2, 0])
        twice = added.added(LONG)
        self.assertEqual([put[0] for put in twice.disk.waiting], [6, 7, 8, 9])
        self.assertEqual([put[1][:4] for put in twice.disk.waiting[1:]], [(2, 3, part, 3) for part in range(3)])
        risen = Book(twice.synced().disk)
        self.assertEqual([risen.records, risen.life, risen.used], [(START, LONG, MORE, LONG), 3, 8])
        self.assertEqual(risen.added(START).disk.waiting, ((10, (3, 4, 0, 1, START)),))

    def test_turning(self):
        book = Book.fresh().turned((LONG, START))
        self.assertEqual([put[0] for put in book.disk.waiting], [2, 3, 4, 5, 0])
        self.assertEqual(book.disk.waiting[-1][1], (2, 0, 4))
        again = book.synced().turned((MORE,))
        self.assertEqual(again.disk.waiting, ((98, (3, 0, 0, 1, MORE)), (1, (3, 1, 1))))
        third = again.synced().turned((START,))
        self.assertEqual(third.disk.waiting, ((2, (4, 0, 0, 1, START)), (0, (4, 0, 1))))
        self.assertEqual([third.records, third.half, third.used, third.life], [(START,), 0, 1, 4])
        # what stands behind it is of a lesser life
        self.assertEqual(Book(third.synced().disk).records, (START,))
        self.assertEqual(Book(third.synced().added(MORE).synced().disk).records, (START, MORE))

    def test_turning_while_something_waits(self):
        book = book_with(START)
        for waiting in (book.added(MORE), book.turned((MORE,)), Book.fresh().turned((START,)), Book(Disk.empty(194).put(5, None))):
            for records in ((START,), (sized(12),) * 9):
                self.assertEqual(kind_of_error(waiting.turned, [records]), (Refused, ("waiting",)))
            for wrong in ((), (START, ()), [START], None):
                self.assertEqual(kind_of_error(waiting.turned, [wrong]), (InvalidRecord, None))
            self.assertEqual(waiting.synced().turned((START,)).records, (START,))

    def test_room(self):
        book = Book.fresh()
        self.assertEqual(book.turned((sized(12),) * 8).used, 96)
        self.assertEqual(kind_of_error(book.turned, [(sized(12),) * 8 + (START,)]), (TooMany, 96))
        self.assertEqual(kind_of_error(book.turned, [()]), (InvalidRecord, None))
        half = book_with(sized(12), sized(12), sized(12), sized(12))
        self.assertEqual([half.used, half.is_full, half.added(START).used, half.added(START).is_full], [48, False, 49, True])
        last = book_with(*[sized(12)] * 7).added(sized(11))
        self.assertEqual(last.added(START).used, 96)
        self.assertEqual(kind_of_error(last.added, [sized(2)]), (TooMany, 96))
        self.assertEqual(kind_of_error(last.added, [()]), (InvalidRecord, None))
        self.assertEqual(last.added(START).disk.waiting[-1][0], 97)

    def test_always_room(self):
        chance = random.Random(16)
        book = book_with(START)
        for _ in range(60):
            room = 48
            while room > 0:
                record = sized(chance.randrange(1, min(room, 12) + 1))
                room -= blocks_needed((record,))
                book = book.added(record)
            book = book.synced()
            if book.is_full:
                book = book.turned((sized(12),) * 4).synced()
            self.assertLessEqual(book.used, 48)

    def test_needed(self):
        self.assertEqual([blocks_needed(()), blocks_needed((START,)), blocks_needed((START * 8, START * 9, START * 96))], [0, 1, 15])

    def test_synced_and_fallen(self):
        book = book_with(START).added(MORE)
        synced = book.synced()
        self.assertEqual([synced.disk, synced.records, synced.life, synced.half, synced.used],
                         [book.disk.synced(), book.records, book.life, book.half, book.used])
        self.assertEqual([book.fallen(()), book.fallen((0,))], [book.disk.fallen(()), book.disk.fallen((0,))])
        for kept in ((1,), (0, 0), [0], (True,), None, (-1,)):
            self.assertEqual(kind_of_error(book.fallen, [kept]), (InvalidOperation, None))

    def test_mending_twice(self):
        for book in (Book.fresh(), book_with(START, LONG), book_with(START).added(MORE), book_with(START).turned((MORE,))):
            once = Book(book.disk)
            self.assertEqual(Book(once.disk), once)
            self.assertEqual(Book(once.disk).records, book.records)

    def test_equality_and_text(self):
        book = book_with(START)
        self.assertEqual(str(Book.fresh()), "book without records, life 1")
        self.assertEqual(str(book_with(START, LONG)), "book of 2 records, 4 blocks in half 0, life 3")
        self.assertEqual(str(book.turned((MORE, MORE, LONG))), "book of 3 records, 5 blocks in half 1, life 4")
        self.assertTrue(book == book_with(START) and not book != book_with(START))
        # the same disk, but another life
        others = [Book.fresh().turned((START,)).synced(), book_with(MORE), book.added(MORE), Book.fresh()]
        for other in others + [value for value in odd_values()]:
            self.assertEqual([book == other, book != other], [False, True])
        self.assertEqual(others[0].disk, book.disk)
        self.assertRaises(TypeError, iter, book)

    def test_a_book_never_changes(self):
        book = book_with(START)
        told = [book.disk, book.records, book.half, book.used, book.life]
        book.added(MORE), book.turned((MORE,)), book.synced(), book.fallen(()), book.added(LONG).added(LONG)
        self.assertEqual([book.disk, book.records, book.half, book.used, book.life], told)

    def test_not_true(self):
        # that the root with the greater life counts
        places = {0: (4, 0, 1), 1: (9, 1, 1), **placed(2, blocks_of(4, 0, START))}
        self.assertEqual(root_of(disk_of(places)), (4, 0, 1))
        # that without a root that counts the disk is empty
        disk = disk_of(placed(2, blocks_of(4, 0, START)))
        self.assertTrue(root_of(disk) is None and disk != Disk.empty(194))

    def test_errors(self):
        book = book_with(START)
        house_disk = Parameter(Disk.empty(194), lambda value: isinstance(value, Disk), InvalidDisk)
        check_errors(self, Book, [house_disk, WITHOUT])
        check_errors(self, root_of, [house_disk])
        check_errors(self, book.added, [Parameter(MORE, is_record, InvalidRecord)])
        check_errors(self, book.turned, [Parameter((MORE,), lambda value: RECORDS.is_right(value) and value != (), InvalidRecord)])
        check_errors(self, blocks_needed, [RECORDS])
        check_errors(self, is_mended, [RECORDS, RECORDS, RECORDS])
        for many in (1, 193, 195, 200):
            self.assertEqual(kind_of_error(Book, [Disk.empty(many)]), (InvalidOperation, None))
            self.assertEqual(kind_of_error(root_of, [Disk.empty(many)]), (InvalidOperation, None))
        self.assertEqual(kind_of_error(Book, [5], {"without": 5}), (InvalidDisk, None))
        self.assertEqual(kind_of_error(Book.fresh().turned, [()]), (InvalidRecord, None))
        self.assertEqual(kind_of_error(Book.fresh().added, [()]), (InvalidRecord, None))
        self.assertEqual(kind_of_error(Disk.empty, [0]), (InvalidNumber, 0))


class CutsTest(unittest.TestCase):
    def test_is_mended(self):
        sure, added = (START, LONG), (MORE, START)
        for many in range(5):
            self.assertIs(is_mended(sure, added, (sure + added)[:many]), many >= 2)
        self.assertIs(is_mended(sure, added, sure + added + (START,)), False)
        self.assertIs(is_mended(sure, added, sure + (START,)), False)
        self.assertIs(is_mended(sure, added, added), False)
        self.assertIs(is_mended((), (), ()), True)
        self.assertIs(is_mended((), added, ()), True)
        self.assertIs(is_mended(sure, (), sure), True)

    def check_cuts(self, book, sure, added, turned=None):
        """Whatever part of the waiting puts a fall keeps: the sure records and a beginning, or those turned with."""
        for kept in parts_of_all(book.disk.waiting):
            disk = book.fallen(kept)
            risen = Book(disk)
            old = is_mended(sure, added if turned is None else (), risen.records)
            new = turned is not None and is_mended(turned, added, risen.records)
            self.assertTrue(old or new, kept)
            self.assertEqual(Book(risen.disk), risen)
            lives = [block[0] for block in disk.sure if block is not None]
            self.assertGreater(risen.life, max(lives, default=0))
        self.assertEqual(Book(book.synced().disk).records, book.records)

    def test_adding_and_falling(self):
        book = book_with(START)
        self.check_cuts(book.added(LONG).added(MORE).added(sized(2)), (START,), (LONG, MORE, sized(2)))

    def test_turning_and_falling(self):
        self.check_cuts(Book.fresh().turned((START, LONG)), (), (), (START, LONG))
        book = book_with(START, MORE)
        turned = book.turned((LONG, START)).added(MORE).added(sized(2))
        self.check_cuts(turned, (START, MORE), (MORE, sized(2)), (LONG, START))

    def test_falling_again_and_again(self):
        chance = random.Random(17)
        book = Book.fresh()
        for _ in range(60):
            sure, turned, added = book.records, None, ()
            if book.half is None or chance.randrange(3) == 0 or book.is_full:
                turned = tuple(sized(chance.randrange(1, 3), chance.choice("ab")) for _ in range(chance.randrange(1, 3)))
                book = book.turned(turned)
            for _ in range(chance.randrange(3)):
                added += (sized(chance.randrange(1, 3), chance.choice("ab")),)
                book = book.added(added[-1])
            self.check_cuts(book, sure, added, turned)
            kept = chance.choice(parts_of_all(book.disk.waiting))
            book = book.synced() if chance.randrange(3) == 0 else Book(book.fallen(kept))

    def test_a_new_root_counts_only_with_all_its_blocks(self):
        turned = book_with(START).turned((LONG, MORE))
        for kept in parts_of_all(turned.disk.waiting):
            self.assertEqual(Book(turned.fallen(kept)).records == (LONG, MORE), kept == (0, 1, 2, 3, 4))


if __name__ == "__main__":
    unittest.main()
