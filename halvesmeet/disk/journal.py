"""Journals: records written as blocks, and what is read of them when blocks were lost."""

from halvesmeet.base.checks import check_number, check_without
from halvesmeet.base.values import is_number, is_plain, is_plain_within, is_within
from halvesmeet.disk.blocks import are_blocks
from halvesmeet.errors import InvalidBlock, InvalidRecord

MOST_ITEMS = 96
ITEMS = 8

MOST_PARTS = 12
ITEM_NEST = 10


def is_item(value):
    """Whether the value is an item of a record."""
    return isinstance(value, tuple) and len(value) > 0 and is_plain_within(value, ITEM_NEST)


def are_items(value, least, most):
    """Whether the value is a tuple of items, of at least and at most so many."""
    if not isinstance(value, tuple) or not least <= len(value) <= most:
        return False
    return all([is_item(item) for item in value])


def is_record(value):
    """Whether the value is a record."""
    return are_items(value, 1, MOST_ITEMS)


def is_record_block(value):
    """Whether the value is one of the blocks as which records are written."""
    if not isinstance(value, tuple) or len(value) != 5:
        return False
    life, number, part, parts, items = value
    if not is_number(life) or life < 1 or not is_number(number) or number < 0:
        return False
    if not is_within(parts, 1, MOST_PARTS) or not is_within(part, 0, parts - 1):
        return False
    # just the last part can have fewer items
    return are_items(items, 1 if part == parts - 1 else ITEMS, ITEMS)


def check_record(value):
    """Refuses all but records."""
    if not is_record(value):
        raise InvalidRecord("a record is a tuple of 1 to 96 items")


def check_records(value):
    """Refuses all but tuples of records."""
    if not isinstance(value, tuple) or not all([is_record(record) for record in value]):
        raise InvalidRecord("records are a tuple of records")


def _check_blocks(value):
    if not are_blocks(value, 0):
        raise InvalidBlock("a row of blocks is a tuple of at most 200 blocks")


def parts_needed(record):
    """How many blocks a record needs."""
    return (len(record) + ITEMS - 1) // ITEMS


def blocks_of(life, number, record):
    """The tuple of the blocks of a record."""
    check_number(life, 1)
    check_number(number, 0)
    check_record(record)
    return written(life, number, record)


def written(life, number, record):
    """As blocks_of, for what was checked."""
    parts = parts_needed(record)
    return tuple([(life, number, part, parts, record[part * ITEMS:(part + 1) * ITEMS]) for part in range(parts)])


def _parts_at(blocks, index, number):
    """The blocks from an index on that are the parts 0, 1, 2, .. of one record with a number."""
    found = []
    for block in blocks[index:]:
        if not is_record_block(block) or block[1] != number or block[2] != len(found):
            break
        if found and (block[0] != found[0][0] or block[3] != found[0][3]):
            break
        found.append(block)
    return found


def _whole_at(blocks, index, number):
    """As record_at, for what was checked."""
    found = _parts_at(blocks, index, number)
    if not found or len(found) < found[0][3]:
        return None
    return tuple([item for block in found for item in block[4]]), found[0][0], len(found)


def record_at(blocks, index, number):
    """The record with a number that begins at an index, its life and the number of its blocks; or None."""
    _check_blocks(blocks)
    check_number(index, 0, len(blocks))
    check_number(number, 0)
    return _whole_at(blocks, index, number)


def mended_rows(blocks, life, *, without=None):
    """The tuple of the triples, as of record_at, of all records that are read."""
    _check_blocks(blocks)
    check_number(life, 0)
    check_without(without)
    return read_rows(blocks, life, without)


def read_rows(blocks, life, without):
    """As mended_rows, for what was checked."""
    rows = []
    index = 0
    row = _whole_at(blocks, index, 0)
    while row is not None and (without == "life" or row[1] >= life):
        rows.append(row)
        life = row[1]
        index += row[2]
        row = _whole_at(blocks, index, len(rows))
    return tuple(rows)


def greatest_life(blocks):
    """The greatest life of all record blocks of a row, 0 if there are none."""
    _check_blocks(blocks)
    return greatest_found(blocks)


def greatest_found(blocks):
    """As greatest_life, for what was checked."""
    return max([block[0] for block in blocks if block is not None and is_record_block(block)], default=0)


def stop_paper(blocks, life):
    """Why reading stops."""
    rows = mended_rows(blocks, life)
    index = sum([row[2] for row in rows])
    if index == len(blocks):
        return ("end",)
    found = _parts_at(blocks, index, len(rows))
    if found and len(found) == found[0][3]:
        return ("life", index, found[0][0])
    return ("part", index + len(found))


def is_stop_paper(blocks, life, value):
    """Whether the value tells why reading stops."""
    paper = stop_paper(blocks, life)
    # True would be equal to 1, but is not plain
    return is_plain(value) and value == paper
