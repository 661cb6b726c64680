import itertools
import random
import unittest

from halvesmeet.base.values import is_plain
from halvesmeet.disk import blocks as module
from halvesmeet.disk.blocks import Disk, each_fall, fall_paper, falls_count, is_block, is_fall_paper
from halvesmeet.errors import InvalidBlock, InvalidDisk, InvalidNumber, InvalidOperation, TooMany
from support import Parameter, check_errors, kind_of_error, nested, number_from, odd_values, parts_of_all

A, B, C = ("a",), (1, None), ()
DISKS = Parameter(Disk.empty(3), lambda value: isinstance(value, Disk), InvalidDisk)
BLOCK = Parameter(A, lambda value: value is None or type(value) is tuple and is_plain(value), InvalidBlock)


def disk_with(blocks, puts):
    disk = Disk(blocks)
    for place, block in puts:
        disk = disk.put(place, block)
    return disk


def random_disk(chance, places, puts):
    """Any disk with few unlike blocks, so that equal puts and puts of sure blocks come often."""
    choices = (None, A, B, C)
    return disk_with(tuple(chance.choice(choices) for _ in range(places)),
                     [(chance.randrange(places), chance.choice(choices)) for _ in range(puts)])


def unlike(disks):
    found = []
    for disk in disks:
        if disk not in found:
            found.append(disk)
    return found


class DiskTest(unittest.TestCase):
    def test_constants(self):
        self.assertEqual([module.MAX_BLOCKS, module.MAX_WAITING, module.MOST_FALLS], [200, 400, 4000])

    def test_blocks(self):
        for right in (None, (), (None,), ("a", (1, ())), nested(tuple, 12)):
            self.assertIs(is_block(right), True)
        for wrong in (1, "a", True, [], {}, (True,), ([],), nested(tuple, 13), nested(tuple, 100000), (10 ** 60,)):
            self.assertIs(is_block(wrong), False)
        for value in odd_values():
            self.assertIs(is_block(value), BLOCK.is_right(value))

    def test_sizes(self):
        self.assertEqual(Disk.empty(1).sure, (None,))
        self.assertEqual(Disk.empty(200).sure, (None,) * 200)
        self.assertEqual([len(Disk.empty(1)), len(Disk.empty(200)), len(Disk((A, B)))], [1, 200, 2])
        for many in (0, 201, True, -1, None):
            self.assertEqual(kind_of_error(Disk.empty, [many]), (InvalidNumber, many))
        for blocks in ((), (None,) * 201, [None], None, (1,), (None, True), ((True,),), (nested(tuple, 13),)):
            self.assertEqual(kind_of_error(Disk, [blocks]), (InvalidBlock, None))

    def test_puts_wait(self):
        disk = disk_with((None, A), [(0, A), (1, B), (0, C), (0, None)])
        self.assertEqual([disk.sure, disk.waiting], [(None, A), ((0, A), (1, B), (0, C), (0, None))])
        self.assertEqual([disk.blocks(), disk.read(0), disk.read(1)], [(None, B), None, B])
        self.assertEqual(disk_with((None, A), [(0, A), (0, C)]).read(0), C)
        self.assertEqual([disk.synced().sure, disk.synced().waiting], [(None, B), ()])

    def test_falls_keep_what_is_told(self):
        chance = random.Random(11)
        for _ in range(60):
            disk = random_disk(chance, 3, chance.randrange(7))
            for kept in parts_of_all(disk.waiting):
                wished = disk_with(disk.sure, [disk.waiting[index] for index in kept])
                fallen = disk.fallen(kept)
                self.assertEqual([fallen.sure, fallen.waiting], [wished.blocks(), ()])
            self.assertEqual(disk.fallen(()), Disk(disk.sure))
            self.assertEqual(disk.fallen(tuple(range(len(disk.waiting)))), disk.synced())

    def test_wrong_falls(self):
        disk = disk_with((None,), [(0, A), (0, B), (0, C)])
        for kept in ((3,), (-1,), (0, 3), (1, 0), (1, 1), (True,), (0, True), [0], (None,), None, 0, {0: 1}, ("a",)):
            self.assertEqual(kind_of_error(disk.fallen, [kept]), (InvalidOperation, None))

    def test_waiting_puts(self):
        disk = disk_with((None,), [(0, A)] * 399)
        self.assertEqual(len(disk.put(0, B).waiting), 400)
        full = disk.put(0, B)
        self.assertEqual(kind_of_error(full.put, [0, A]), (TooMany, 400))
        self.assertEqual(kind_of_error(full.put, [1, A]), (InvalidNumber, 1))
        self.assertEqual(kind_of_error(full.put, [0, 1]), (InvalidBlock, None))
        self.assertEqual(full.synced().put(0, A).waiting, ((0, A),))

    def test_objects(self):
        disk = disk_with((None, A), [(0, A)])
        disk.put(1, B), disk.synced(), disk.fallen((0,)), disk.read(0)
        self.assertEqual([disk.sure, disk.waiting], [(None, A), ((0, A),)])
        self.assertEqual(str(disk), "disk of 2 blocks, 1 waiting")
        others = [Disk((None, A)), Disk((A, A)), disk.put(0, A), disk.put(1, A), disk_with((None, A), [(1, A)]), Disk((None,))]
        for other in others + odd_values():
            self.assertEqual([disk == other, disk != other], [False, True])
        self.assertTrue(disk == Disk((None, A)).put(0, A))
        self.assertFalse(disk != Disk((None, A)).put(0, A))
        self.assertRaises(TypeError, iter, disk)

    def test_errors(self):
        disk = disk_with((None, A), [(0, A), (1, B)])
        places = Parameter(1, number_from(0, 1), InvalidNumber)
        check_errors(self, disk.put, [places, BLOCK])
        check_errors(self, disk.read, [places])
        check_errors(self, disk.fallen, [Parameter((1,), lambda value: value in ((), (0,), (1,), (0, 1))
                                                   and not any(type(at) is bool for at in value), InvalidOperation)])
        check_errors(self, Disk.empty, [Parameter(5, number_from(1, 200), InvalidNumber)])
        check_errors(self, Disk, [Parameter((A,), lambda value: type(value) is tuple and 1 <= len(value) <= 200
                                            and all(map(BLOCK.is_right, value)), InvalidBlock)])


class FallsTest(unittest.TestCase):
    def all_falls(self, disk):
        return [disk.fallen(kept) for kept in parts_of_all(disk.waiting)]

    def numbers_of(self, disk, fallen):
        """The numbers of the versions that lie on a fallen disk."""
        numbers = []
        for place, sure in enumerate(disk.sure):
            versions = [sure] + [block for at, block in disk.waiting if at == place]
            versions = [block for at, block in enumerate(versions) if block not in versions[:at]]
            numbers.append(versions.index(fallen.sure[place]))
        return tuple(numbers)

    def test_all_falls(self):
        chance = random.Random(12)
        for _ in range(60):
            disk = random_disk(chance, chance.randrange(1, 4), chance.randrange(8))
            told = list(each_fall(disk))
            self.assertEqual(falls_count(disk), len(unlike(self.all_falls(disk))))
            self.assertEqual(len(told), falls_count(disk))
            self.assertEqual(len(unlike(told)), len(told))
            for fallen in self.all_falls(disk):
                self.assertIn(fallen, told)
            numbers = [self.numbers_of(disk, fallen) for fallen in told]
            self.assertEqual(numbers, sorted(numbers))
            self.assertTrue(all(fallen.waiting == () for fallen in told))

    def test_papers(self):
        chance = random.Random(13)
        for _ in range(40):
            disk = random_disk(chance, 2, chance.randrange(6))
            falls = self.all_falls(disk)
            candidates = [Disk(pair) for pair in itertools.product((None, A, B, C, (9,)), repeat=2)]
            for other in candidates:
                paper = fall_paper(disk, other)
                right = [kept for kept in parts_of_all(disk.waiting) if disk.fallen(kept) == other]
                self.assertEqual(paper is None, other not in falls)
                self.assertTrue(paper is None or paper in right)
                for value in parts_of_all(disk.waiting):
                    self.assertIs(is_fall_paper(disk, other, value), value in right)

    def test_other_disks(self):
        disk = disk_with((None, None), [(0, A), (1, B)])
        for other in (Disk((A,)), Disk((A, B, None)), Disk((None, None)).put(0, A), Disk((A, B)).put(0, A), Disk((C, B))):
            self.assertIsNone(fall_paper(disk, other))
            for value in parts_of_all(disk.waiting):
                self.assertIs(is_fall_paper(disk, other, value), False)

    def test_wrong_papers(self):
        disk = disk_with((None,), [(0, A), (0, B)])
        for value in odd_values() + [(1, 0), (0, 0), (2,), (-1,), [0], (True,), (False,), nested(tuple, 100000)]:
            right = type(value) is tuple and value in ((0,),) and type(value[0]) is int
            self.assertIs(is_fall_paper(disk, Disk((A,)), value), right, value)

    def test_many_falls(self):
        # 2 ** 11 * 3 is above the bound; 4000 = 2 ** 5 * 5 ** 3 is not
        puts = [(place, A) for place in range(5)] + [(place, (at,)) for place in range(5, 8) for at in range(4)]
        disk = disk_with((None,) * 8, puts)
        self.assertEqual(falls_count(disk), 4000)
        told = list(each_fall(disk))
        self.assertEqual([len(told), told[0], told[-1]], [4000, Disk(disk.sure), disk.synced()])
        more = disk_with((None,) * 3, [(0, (at,)) for at in range(4000 // 25)] + [(1, (at,)) for at in range(4)]
                         + [(2, (at,)) for at in range(4)])
        self.assertEqual(falls_count(more), 161 * 25)
        self.assertEqual(kind_of_error(each_fall, [more]), (TooMany, 4000))
        self.assertEqual(falls_count(disk_with((None,) * 200, [(place, A) for place in range(200)])), 2 ** 200)
        self.assertEqual(falls_count(disk_with((None,), [(0, (at,)) for at in range(400)])), 401)

    def test_a_generator_raises_when_its_first_element_is_requested(self):
        for wrong in (None, 5, (None,)):
            falls = each_fall(wrong)
            self.assertRaises(InvalidDisk, next, falls)

    def test_errors(self):
        for function in (falls_count, each_fall):
            check_errors(self, function, [DISKS])
        check_errors(self, fall_paper, [DISKS, DISKS])
        check_errors(self, lambda disk, other: is_fall_paper(disk, other, 5), [DISKS, DISKS])


if __name__ == "__main__":
    unittest.main()
