import random
import unittest

from halvesmeet.base.values import is_plain
from halvesmeet.disk import journal as module
from halvesmeet.disk.blocks import is_block
from halvesmeet.disk.journal import (
    blocks_of, greatest_life, is_item, is_record, is_record_block, is_stop_paper, mended_rows, record_at, stop_paper)
from halvesmeet.errors import InvalidBlock, InvalidNumber, InvalidOperation, InvalidRecord
from support import Parameter, check_errors, kind_of_error, nested, number_from, odd_values, parts_of_all


def items(many, word="item"):
    return tuple((word, at) for at in range(many))


ONE, LONG, THREE_PARTS = items(1), items(10), items(20)
ROW = blocks_of(1, 0, ONE) + blocks_of(1, 1, LONG) + blocks_of(3, 2, ONE)
BLOCKS = Parameter(ROW, lambda value: type(value) is tuple and len(value) <= 200 and all(map(is_block, value)),
                   InvalidBlock)
WITHOUT = Parameter(None, lambda value: value is None or type(value) is str, InvalidOperation, "without")


def depth(value):
    if type(value) is not tuple:
        return 0
    return 1 + max([depth(member) for member in value], default=0)


def is_right_item(value):
    return is_plain(value) and type(value) is tuple and len(value) > 0 and depth(value) <= 10


def is_right_block(value):
    """As the document tells record blocks."""
    if type(value) is not tuple or len(value) != 5 or not all(type(part) is int for part in value[:4]):
        return False
    life, number, part, parts, inside = value
    if not (1 <= life < 10 ** 60 and 0 <= number < 10 ** 60 and 1 <= parts <= 12 and 0 <= part < parts):
        return False
    if type(inside) is not tuple or not all(map(is_right_item, inside)):
        return False
    return len(inside) == 8 or part == parts - 1 and 1 <= len(inside) <= 8


def reading(blocks, life, minds_lives=True):
    """What is read, as the document tells it: the records, and their lives and sizes."""
    rows, start = [], 0
    while start < len(blocks) and is_right_block(blocks[start]):
        head = blocks[start]
        parts = blocks[start:start + head[3]]
        wished = [(head[0], len(rows), part, head[3]) for part in range(head[3])]
        if not all(map(is_right_block, parts)) or [block[:4] for block in parts] != wished:
            break
        if minds_lives and head[0] < life:
            break
        rows.append((sum([block[4] for block in parts], ()), head[0], head[3]))
        start, life = start + head[3], head[0]
    return tuple(rows)


def random_row(chance):
    """A row of few unlike blocks, most of them going on with those ahead."""
    blocks, number, life = [], 0, chance.randrange(1, 4)
    for _ in range(chance.randrange(5)):
        life = max(1, life + chance.choice((0, 0, 1, -1)))
        blocks += blocks_of(life, number, items(chance.choice((1, 8, 9, 17))))
        number += chance.choice((1, 1, 1, 1, 0, 2))
    for _ in range(chance.randrange(3)):
        if blocks:
            at = chance.randrange(len(blocks))
            blocks[at] = chance.choice((None, (1, 0), blocks[0], blocks[-1], (2,) + (blocks[at] or (2,))[1:]))
    return tuple(blocks)


class RecordsTest(unittest.TestCase):
    def test_constants(self):
        self.assertEqual([module.MOST_ITEMS, module.ITEMS], [96, 8])

    def test_items(self):
        for right in ((None,), ("a", 1), ((),), nested(tuple, 10), ("a", nested(tuple, 9)), (10 ** 60 - 1,)):
            self.assertIs(is_item(right), True)
        for wrong in ((), [1], None, 1, "a", (True,), ("A",), nested(tuple, 11), ("a", nested(tuple, 10)), (10 ** 60,),
                      nested(tuple, 100000), ([],)):
            self.assertIs(is_item(wrong), False)

    def test_records(self):
        for right in (items(1), items(8), items(9), items(95), items(96), (nested(tuple, 10),)):
            self.assertIs(is_record(right), True)
        for wrong in ((), items(97), list(items(2)), items(2) + ((),), (1,), None, (nested(tuple, 11),), ((True,),), {},
                      nested(tuple, 100000)):
            self.assertIs(is_record(wrong), False)

    def test_record_blocks(self):
        for block in ((1, 0, 0, 1, items(1)), (1, 0, 0, 1, items(8)), (10 ** 60 - 1, 10 ** 60 - 1, 11, 12, items(3)),
                      (5, 7, 10, 12, items(8)), (2, 3, 1, 2, (nested(tuple, 10),))):
            self.assertIs(is_record_block(block), True)
            odd = odd_values() + [items(0), items(1), items(7), items(8), items(9), (nested(tuple, 11),), 11, 12]
            for at in range(5):
                self.assertIs(is_record_block(block[:at] + block[at + 1:]), False)
                self.assertIs(is_record_block(block[:at] + (1,) + block[at:]), False)
                for value in odd:
                    changed = block[:at] + (value,) + block[at + 1:]
                    self.assertIs(is_record_block(changed), is_right_block(changed), changed)
            self.assertIs(is_record_block(list(block)), False)

    def test_no_value_raises_an_error(self):
        for value in odd_values() + [nested(tuple, 100000)]:
            self.assertIn(is_item(value), (True, False))
            self.assertIn(is_record(value), (True, False))
            self.assertIs(is_record_block(value), value == (1, 0, 0, 1, (("a",),)))

    def test_blocks_of(self):
        for many, sizes in ((1, [1]), (8, [8]), (9, [8, 1]), (16, [8, 8]), (95, [8] * 11 + [7]), (96, [8] * 12)):
            blocks = blocks_of(4, 7, items(many))
            self.assertEqual([len(block[4]) for block in blocks], sizes)
            self.assertEqual([block[:4] for block in blocks], [(4, 7, part, len(sizes)) for part in range(len(sizes))])
            self.assertEqual(sum([block[4] for block in blocks], ()), items(many))
            self.assertTrue(all(is_record_block(block) and is_block(block) for block in blocks))
            self.assertEqual(record_at(blocks, 0, 7), (items(many), 4, len(sizes)))
        self.assertTrue(is_block(blocks_of(1, 0, (nested(tuple, 10),))[0]))

    def test_errors_of_blocks_of(self):
        check_errors(self, blocks_of, [Parameter(1, number_from(1), InvalidNumber), Parameter(0, number_from(0), InvalidNumber),
                                       Parameter(ONE, is_record, InvalidRecord)])


class ReadingTest(unittest.TestCase):
    def test_record_at(self):
        self.assertEqual(record_at(ROW, 0, 0), (ONE, 1, 1))
        self.assertEqual(record_at(ROW, 1, 1), (LONG, 1, 2))
        self.assertEqual(record_at(ROW, 3, 2), (ONE, 3, 1))
        for index, number in ((0, 1), (1, 0), (2, 1), (3, 1), (4, 3), (4, 0)):
            self.assertIsNone(record_at(ROW, index, number))
        self.assertIsNone(record_at((), 0, 0))

    def test_broken_records(self):
        whole = blocks_of(2, 0, THREE_PARTS)
        self.assertEqual(record_at(whole, 0, 0), (THREE_PARTS, 2, 3))
        for at in range(3):
            life, number, part, parts, inside = whole[at]
            others = [None, (), (life + 1, *whole[at][1:]), (life - 1, *whole[at][1:]), (life, 1, part, parts, inside),
                      (life, number, (part + 1) % 3, parts, inside), (life, number, part, 4, inside),
                      (life, number, part, parts, inside[:0]), (life, number, part, parts, inside + items(9)),
                      (life, number, part, parts), (life, number, part, parts, inside + ((),))]
            for other in others:
                self.assertIsNone(record_at(whole[:at] + (other,) + whole[at + 1:], 0, 0), other)
            self.assertIsNone(record_at(whole[:at] + whole[at + 1:], 0, 0))
            self.assertIsNone(record_at(whole[:at] + (None,) + whole[at:], 0, 0))
        self.assertIsNone(record_at(whole[::-1], 0, 0))
        # seven items in the last part are a record block, in another part they are none
        self.assertEqual(record_at(whole[:2] + ((2, 0, 2, 3, items(1)),), 0, 0)[0], items(16) + items(1))

    def test_lives(self):
        row = blocks_of(2, 0, ONE) + blocks_of(2, 1, ONE) + blocks_of(5, 2, ONE) + blocks_of(4, 3, ONE)
        for life, many in ((0, 3), (2, 3), (3, 0), (10 ** 60 - 1, 0)):
            self.assertEqual(len(mended_rows(row, life)), many)
            self.assertEqual(len(mended_rows(row, life, without="life")), 4)
            for word in (None, "", "sync", "lives", "a b"):
                self.assertEqual(len(mended_rows(row, life, without=word)), many)
        self.assertEqual(mended_rows(row, 0)[2], (ONE, 5, 1))
        self.assertEqual(mended_rows((), 0), ())

    def test_parts_of_unlike_lives_are_no_record_without_the_rule_either(self):
        row = blocks_of(2, 0, LONG)[:1] + blocks_of(1, 0, LONG)[1:]
        self.assertEqual(mended_rows(row, 0, without="life"), ())

    def test_numbers(self):
        row = blocks_of(1, 0, ONE) + blocks_of(1, 2, ONE)
        self.assertEqual(len(mended_rows(row, 0)), 1)
        self.assertEqual(mended_rows(blocks_of(1, 1, ONE), 0), ())
        self.assertEqual(mended_rows((None,) + blocks_of(1, 0, ONE), 0), ())

    def test_any_rows(self):
        chance = random.Random(14)
        for _ in range(1500):
            row, life = random_row(chance), chance.randrange(4)
            self.assertEqual(mended_rows(row, life), reading(row, life))
            self.assertEqual(mended_rows(row, life, without="life"), reading(row, life, False))
            self.assertEqual(greatest_life(row), max([block[0] for block in row if is_right_block(block)], default=0))
            self.check_stop(row, life)

    def check_stop(self, row, life):
        rows = reading(row, life)
        start = sum(told[2] for told in rows)
        paper = stop_paper(row, life)
        whole = reading(row[start:] if not rows else row, 0, False)[len(rows):]
        if start == len(row):
            self.assertEqual(paper, ("end",))
        elif whole:
            self.assertEqual(paper, ("life", start, whole[0][1]))
            self.assertLess(whole[0][1], rows[-1][1] if rows else life)
        else:
            self.assertEqual((paper[0], len(paper)), ("part", 2))
            self.check_part(row, start, len(rows), paper[1])
        for value in (("end",), ("life", start, 1), ("part", start), paper):
            self.assertIs(is_stop_paper(row, life, value), value == paper)

    def check_part(self, row, start, number, told):
        self.assertTrue(start <= told <= len(row))
        for at in range(start, told):
            self.assertEqual(row[at][:4], (row[start][0], number, at - start, row[start][3]))
        if told < len(row) and is_right_block(row[told]):
            wished = row[start][0] if told > start else row[told][0], number, told - start, row[start][3]
            self.assertNotEqual(row[told][:4], wished)

    def test_greatest_life(self):
        self.assertEqual(greatest_life(()), 0)
        self.assertEqual(greatest_life((None, (9, 0, 1), (9, 0, 0, 1, ()))), 0)
        self.assertEqual(greatest_life((None, (9, 0, 0, 1, items(1))) + ROW), 9)

    def test_stops(self):
        self.assertEqual(stop_paper((), 0), ("end",))
        self.assertEqual(stop_paper(ROW, 0), ("end",))
        self.assertEqual(stop_paper(ROW, 2), ("life", 0, 1))
        self.assertEqual(stop_paper(ROW + (None,), 0), ("part", 4))
        long = blocks_of(1, 0, THREE_PARTS)
        self.assertEqual(stop_paper(long[:2], 0), ("part", 2))
        self.assertEqual(stop_paper(long[:1] + long[2:], 0), ("part", 1))
        self.assertEqual(stop_paper(long[:2] + ((2, *long[2][1:]),), 0), ("part", 2))
        # a record that is not whole tells a part, whatever its life is
        self.assertEqual(stop_paper(long[:2], 5), ("part", 2))
        self.assertEqual(stop_paper(blocks_of(3, 0, ONE) + blocks_of(2, 1, LONG)[:1], 0), ("part", 2))
        self.assertEqual(stop_paper(blocks_of(3, 0, ONE) + blocks_of(2, 1, LONG), 0), ("life", 1, 2))
        self.assertEqual(stop_paper(blocks_of(3, 0, ONE) + blocks_of(2, 2, LONG), 0), ("part", 1))

    def test_wrong_stop_papers(self):
        odd = odd_values() + [("life", 0, True), ("life", False, 1), ("life", 0, 1, 1), ["life", 0, 1], ("life", 0), ("end",)]
        for value in odd:
            self.assertIs(is_stop_paper(ROW, 2, value), False)
        self.assertIs(is_stop_paper(ROW, 2, ("life", 0, 1)), True)
        self.assertIs(is_stop_paper((None,), 0, ("part", False)), False)
        self.assertIs(is_stop_paper((None,), 0, ("part", 0)), True)
        self.assertIs(is_stop_paper((), 0, ["end"]), False)

    def test_losses_again_and_again(self):
        chance = random.Random(15)
        for _ in range(12):
            blocks, life = (None,) * 12, 1
            for _ in range(4):
                blocks, life = self.check_losses(chance, blocks, life)

    def check_losses(self, chance, blocks, life):
        """Writes further records, loses each part of their blocks, and returns one of the outcomes."""
        old = mended_rows(blocks, 0)
        start = sum(row[2] for row in old)
        life = max(life, greatest_life(blocks)) + chance.randrange(1, 3)
        records = [items(chance.choice((1, 9, 17)), chance.choice("abc")) for _ in range(chance.randrange(1, 4))]
        new, ends = (), []
        for number, record in enumerate(records):
            new += blocks_of(life, len(old) + number, record)
            ends.append(len(new))
        if start + len(new) > len(blocks):
            return blocks, life
        outcomes = []
        for kept in parts_of_all(new):
            told = list(blocks)
            for index in kept:
                told[start + index] = new[index]
            lost = [index for index in range(len(new)) if index not in kept]
            whole = sum(1 for end in ends if not lost or end <= lost[0])
            rows = mended_rows(tuple(told), 0)
            self.assertEqual([row[0] for row in rows], [row[0] for row in old] + records[:whole])
            outcomes.append(tuple(told))
        return chance.choice(outcomes), life

    def test_not_true(self):
        # that what is read has all blocks that were not lost
        row = ROW[:1] + (None,) + ROW[2:]
        self.assertEqual(len(mended_rows(row, 0)), 1)
        self.assertTrue(is_record_block(row[3]))
        # that a record with a greater number has a greater life
        self.assertEqual([told[1] for told in mended_rows(ROW, 0)], [1, 1, 3])

    def test_errors(self):
        life = Parameter(1, number_from(0), InvalidNumber)
        check_errors(self, record_at, [BLOCKS, Parameter(0, number_from(0, 4), InvalidNumber),
                                       Parameter(0, number_from(0), InvalidNumber)])
        check_errors(self, mended_rows, [BLOCKS, life, WITHOUT])
        check_errors(self, greatest_life, [BLOCKS])
        check_errors(self, stop_paper, [BLOCKS, life])
        check_errors(self, lambda blocks, told: is_stop_paper(blocks, told, 5), [BLOCKS, life])

    def test_long_rows(self):
        self.assertEqual(mended_rows((None,) * 200, 0), ())
        self.assertEqual(kind_of_error(mended_rows, [(None,) * 201, 0]), (InvalidBlock, None))
        self.assertEqual(record_at((None,) * 200, 200, 0), None)
        self.assertEqual(kind_of_error(record_at, [(None,) * 200, 201, 0]), (InvalidNumber, 201))


if __name__ == "__main__":
    unittest.main()
