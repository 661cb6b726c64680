"""Books: disks with two halves, of which one has the journal that counts."""

from halvesmeet.base.checks import check_without
from halvesmeet.base.values import is_number, is_within
from halvesmeet.disk.blocks import Disk, check_disk
from halvesmeet.disk.journal import check_record, check_records, greatest_found, parts_needed, read_rows, written
from halvesmeet.errors import InvalidOperation, InvalidRecord, Refused, TooMany

HALF = 96
PLACES = 194
FULL = 48

ROOT_PLACES = 2


def _is_root(value):
    """Whether a block is a root: a life, a half, and a number of blocks."""
    if not isinstance(value, tuple) or len(value) != 3:
        return False
    life, half, count = value
    return is_number(life) and life >= 1 and is_within(half, 0, 1) and is_within(count, 1, HALF)


def _first_place(half):
    """The place at which a half begins."""
    return ROOT_PLACES + half * HALF


def _half_of(blocks, half):
    """The blocks of a half."""
    return blocks[_first_place(half):_first_place(half) + HALF]


def _does_count(blocks, spot):
    """Whether at a place of the roots stands one that counts."""
    root = blocks[spot]
    if not _is_root(root):
        return False
    life, half, count = root
    rows = read_rows(_half_of(blocks, half)[:count], life, None)
    return sum([row[2] for row in rows]) == count and all([row[1] == life for row in rows])


def _root_spot(blocks):
    """The place of the root that counts, None without one."""
    spots = [spot for spot in range(ROOT_PLACES) if _does_count(blocks, spot)]
    if len(spots) == ROOT_PLACES:
        return 1 if blocks[1][0] > blocks[0][0] else 0
    return spots[0] if spots else None


def _next_life(blocks):
    """One more than the greatest life of all roots and record blocks of a disk."""
    roots = [block[0] for block in blocks[:ROOT_PLACES] if _is_root(block)]
    return max(roots + [greatest_found(blocks[ROOT_PLACES:])]) + 1


def _check_places(disk):
    if len(disk) != PLACES:
        raise InvalidOperation("the disk of a house has 194 places")


def blocks_needed(records):
    """How many blocks records need."""
    check_records(records)
    return sum([parts_needed(record) for record in records])


def root_of(disk):
    """The root that counts, or None."""
    check_disk(disk)
    _check_places(disk)
    blocks = disk.blocks()
    spot = _root_spot(blocks)
    return None if spot is None else blocks[spot]


class Book:
    """A disk that was mended, with its records; a book never changes."""

    def __init__(self, disk, *, without=None):
        check_disk(disk)
        check_without(without)
        _check_places(disk)
        blocks = disk.blocks()
        spot = _root_spot(blocks)
        rows = ()
        half = None
        if spot is not None:
            life, half, _ = blocks[spot]
            rows = read_rows(_half_of(blocks, half), life, without)
        self._disk = disk
        self._records = tuple([row[0] for row in rows])
        self._spot = spot
        self._half = half
        self._used = sum([row[2] for row in rows])
        self._life = _next_life(blocks)

    @classmethod
    def fresh(cls):
        """The book of an empty disk."""
        return cls(Disk.empty(PLACES))

    @property
    def disk(self):
        """The disk."""
        return self._disk

    @property
    def records(self):
        """The tuple of the records."""
        return self._records

    @property
    def half(self):
        """The half that has the records, None without a root that counts."""
        return self._half

    @property
    def used(self):
        """The number of the blocks of the records."""
        return self._used

    @property
    def life(self):
        """The life in which the next records are added."""
        return self._life

    @property
    def is_full(self):
        """Whether the book should turn."""
        return self._used > FULL

    def added(self, record):
        """The book with one more record."""
        check_record(record)
        if self._half is None:
            raise InvalidOperation("a book without a root has no half to which a record could be added")
        if self._used + parts_needed(record) > HALF:
            raise TooMany(HALF)
        place = _first_place(self._half) + self._used
        disk = _disk_with(self._disk, place, written(self._life, len(self._records), record))
        return _made(disk, self._records + (record,), (self._spot, self._half, self._life))

    def turned(self, records):
        """The book with just some records, written anew to the other half."""
        check_records(records)
        if records == ():
            raise InvalidRecord("a book turns with at least one record")
        if self._disk.waiting != ():
            raise Refused(("waiting",))
        count = blocks_needed(records)
        if count > HALF:
            raise TooMany(HALF)
        life = self._life + 1
        half = 0 if self._half is None else 1 - self._half
        spot = 0 if self._spot is None else 1 - self._spot
        blocks = [block for number, record in enumerate(records) for block in written(life, number, record)]
        disk = _disk_with(self._disk, _first_place(half), blocks)
        # the root stands in the sequence behind all that it counts
        return _made(disk.put(spot, (life, half, count)), records, (spot, half, life))

    def synced(self):
        """The same book behind a sync."""
        return _made(self._disk.synced(), self._records, (self._spot, self._half, self._life))

    def fallen(self, kept):
        """The disk behind a fall."""
        return self._disk.fallen(kept)

    def __eq__(self, other):
        return isinstance(other, Book) and _members_of(self) == _members_of(other)

    def __str__(self):
        if self._half is None:
            return f"book without records, life {self._life}"
        return f"book of {len(self._records)} records, {self._used} blocks in half {self._half}, life {self._life}"


def _members_of(book):
    """What equal books have in common."""
    return book.life, book.records, book.disk


def _made(disk, records, root):
    """The book with told records and the place, half and life of its root: it need not be mended again."""
    book = Book.fresh()
    book._disk = disk
    book._records = records
    book._spot, book._half, book._life = root
    book._used = sum([parts_needed(record) for record in records])
    return book


def _disk_with(disk, place, blocks):
    """The disk with blocks put from a place on."""
    for offset, block in enumerate(blocks):
        disk = disk.put(place + offset, block)
    return disk


def is_mended(sure, added, records):
    """Whether the last are the first and a beginning of the second."""
    check_records(sure)
    check_records(added)
    check_records(records)
    return len(records) >= len(sure) and (sure + added)[:len(records)] == records
