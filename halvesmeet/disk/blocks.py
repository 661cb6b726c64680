"""Disks: rows of blocks, of which the last puts are not sure."""

from halvesmeet.base.checks import check_number
from halvesmeet.base.values import are_indices, is_plain
from halvesmeet.errors import InvalidBlock, InvalidDisk, InvalidOperation, TooMany

MAX_BLOCKS = 200
MAX_WAITING = 400
MOST_FALLS = 4000


def is_block(value):
    """Whether the value is a block: None, or a plain tuple."""
    return value is None or (isinstance(value, tuple) and is_plain(value))


def are_blocks(value, least):
    """Whether the value is a tuple of at least so many blocks, and no more than a disk has."""
    if not isinstance(value, tuple) or not least <= len(value) <= MAX_BLOCKS:
        return False
    return all([is_block(block) for block in value])


class Disk:
    """The sure blocks of a disk, and the puts that wait for a sync; a disk never changes."""

    def __init__(self, blocks):
        if not are_blocks(blocks, 1):
            raise InvalidBlock("a disk has a tuple of 1 to 200 blocks")
        self._sure = blocks
        self._waiting = ()

    @classmethod
    def empty(cls, many):
        """The disk with so many places on which nothing was ever put."""
        check_number(many, 1, MAX_BLOCKS)
        return _made((None,) * many, ())

    @property
    def sure(self):
        """The tuple of the sure blocks."""
        return self._sure

    @property
    def waiting(self):
        """The tuple of the waiting puts, pairs of a place and a block."""
        return self._waiting

    def put(self, place, block):
        """The disk with one more waiting put."""
        check_number(place, 0, len(self._sure) - 1)
        if not is_block(block):
            raise InvalidBlock("a block is None or a plain tuple")
        if len(self._waiting) >= MAX_WAITING:
            raise TooMany(MAX_WAITING)
        return _made(self._sure, self._waiting + ((place, block),))

    def read(self, place):
        """What a place reads as while the house is up."""
        check_number(place, 0, len(self._sure) - 1)
        return self.blocks()[place]

    def blocks(self):
        """The tuple of what all places read as."""
        return _behind(self._sure, self._waiting)

    def synced(self):
        """The disk behind a sync."""
        return _made(self.blocks(), ())

    def fallen(self, kept):
        """The disk behind a fall that keeps the waiting puts with some indices."""
        if not are_indices(kept, len(self._waiting)):
            raise InvalidOperation("what is kept is an ascending tuple of indices of waiting puts")
        return _made(_behind(self._sure, [self._waiting[index] for index in kept]), ())

    def __len__(self):
        return len(self._sure)

    def __eq__(self, other):
        return isinstance(other, Disk) and self._sure == other._sure and self._waiting == other._waiting

    def __str__(self):
        return f"disk of {len(self._sure)} blocks, {len(self._waiting)} waiting"


def _made(sure, waiting):
    """The disk with blocks that were checked when they were put."""
    disk = Disk((None,))
    disk._sure = sure
    disk._waiting = waiting
    return disk


def _behind(sure, puts):
    """The blocks behind some puts, one after the other."""
    blocks = list(sure)
    for place, block in puts:
        blocks[place] = block
    return tuple(blocks)


def check_disk(value):
    """Refuses all but disks."""
    if not isinstance(value, Disk):
        raise InvalidDisk("a disk is an object of the class Disk")


def _versions_of(disk):
    """For each place the list of the unlike blocks that a fall can leave there."""
    versions = [[block] for block in disk.sure]
    for place, block in disk.waiting:
        if block not in versions[place]:
            versions[place].append(block)
    return versions


def falls_count(disk):
    """How many unlike disks a fall can leave."""
    check_disk(disk)
    many = 1
    for choices in _versions_of(disk):
        many = many * len(choices)
    return many


def each_fall(disk):
    """All disks that a fall can leave, each once, ascending by the numbers of the versions."""
    many = falls_count(disk)
    if many > MOST_FALLS:
        raise TooMany(MOST_FALLS)
    versions = _versions_of(disk)
    for number in range(many):
        yield _made(_picked(versions, number), ())


def _picked(versions, number):
    """The blocks of the disk with a number, the versions of its last place being counted first."""
    blocks = []
    for choices in reversed(versions):
        blocks.append(choices[number % len(choices)])
        number = number // len(choices)
    return tuple(reversed(blocks))


def fall_paper(disk, other):
    """Indices of waiting puts with which a disk falls to another one, None if it never does."""
    check_disk(disk)
    check_disk(other)
    kept = {}
    for index, (place, block) in enumerate(disk.waiting):
        if place < len(other) and block == other.sure[place]:
            kept[place] = index
    paper = tuple(sorted(kept.values()))
    return paper if disk.fallen(paper) == other else None


def is_fall_paper(disk, other, value):
    """Whether the value are indices of waiting puts with which a disk falls to another one."""
    check_disk(disk)
    check_disk(other)
    return are_indices(value, len(disk.waiting)) and disk.fallen(value) == other
