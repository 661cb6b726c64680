"""The calm: told events that bring each open call to its answer."""

from halvesmeet.base.values import MAX_HOUSES, are_indices, is_plain
from halvesmeet.errors import InvalidOperation, Refused, TooMany
from halvesmeet.house.asking import PATIENCE
from halvesmeet.house.terms import is_enough
from halvesmeet.net.letters import receiver
from halvesmeet.world.worlds import MAX_EVENTS, check_events, check_world, moved

CALM_MORE = 10


def _check_lot(value):
    if not are_indices(value, MAX_HOUSES) or value == ():
        raise InvalidOperation("a lot is an ascending tuple of one to nine houses")


def calm(world, lot):
    """The events of the calm of a world with a lot, () if no call is open."""
    check_world(world)
    _check_lot(lot)
    if not _has_open_call(world):
        return ()
    # what is lacked is told ahead of what is too much: so the events of the world leave the calm its room until its end
    most = len(world) + MAX_EVENTS
    later = _behind_begin(world, lot)
    while _has_open_call(later):
        _check_lack(later, lot)
        later = _behind_round(later, lot, most)
        # if a rule is left out, a calm may have no end
        if len(later) > most:
            raise TooMany(MAX_EVENTS)
    if len(later) > MAX_EVENTS:
        raise TooMany(MAX_EVENTS)
    return later.events[len(world):]


def _has_open_call(world):
    return any([client.open_call is not None for client in world.clients])


def _behind_begin(world, lot):
    """The world in which the bag is empty, and the houses of a lot are up."""
    later = world
    while len(later.bag) > 0:
        later = moved(later, ("lose", 0))
    for house in lot:
        if later.houses[house] is None:
            later = moved(later, ("rise", house))
    return later


def _check_lack(world, lot):
    """Refuses a lot that has not more than half of the circle for which a round would be."""
    told = _told_epoch(world, lot)
    if told is None:
        raise Refused(("lacks", -1))
    epoch, circle = told
    if not is_enough(circle, len([house for house in circle if house in lot]), None):
        raise Refused(("lacks", epoch))


def _behind_round(world, lot, most):
    """The world behind a round, which is cut off behind so many events."""
    driver = _told_driver(world, lot)
    later = _synced(moved(world, ("beat", driver)), driver)
    if later.houses[driver].role == "leads":
        for client in world.clients:
            if client.open_call is not None:
                later = moved(later, ("again", client.number, driver))
    while len(later.bag) > 0 and len(later) <= most:
        later = _behind_first(later, lot)
    return later


def _behind_first(world, lot):
    """The world behind the first letter of the bag."""
    kind, number = receiver(world.bag.letters[0])
    if kind == "client":
        return moved(world, ("take", 0))
    if number not in lot:
        return moved(world, ("lose", 0))
    return _synced(moved(world, ("take", 0)), number)


def _synced(world, number):
    """The world behind a sync of a house, if it has anything to be synced."""
    house = world.houses[number]
    if house.held == () and house.pending == ():
        return world
    return moved(world, ("sync", number))


def calm_bound(world):
    """In how many rounds a calm answers all open calls, if it lacks no epoch and no rule is left out."""
    check_world(world)
    return (2 + len(world.clients)) * (PATIENCE + CALM_MORE)


def rounds_of(events):
    """How many beats there are."""
    check_events(events)
    return len([event for event in events if event[0] == "beat"])


def driver_of(world, lot):
    """The house of a lot that beats in a round, None if no house of it that is up has an epoch."""
    check_world(world)
    _check_lot(lot)
    return _told_driver(world, lot)


def _told_driver(world, lot):
    """As driver_of, for what was checked."""
    houses = world.houses
    ready = [house for house in lot if houses[house] is not None and houses[house].facts is not None]
    greatest = max([houses[house].facts.epoch for house in ready], default=-1)
    newest = [house for house in ready if houses[house].facts.epoch == greatest]
    over = [house for house in newest if houses[house].role == "over"]
    leading = [(-houses[house].memory.term, house) for house in newest if houses[house].role == "leads"]
    if over:
        return over[0]
    if leading:
        return min(leading)[1]
    return newest[0] if newest else None


def epoch_of(world, lot):
    """The epoch and the circle for which a round is, None if no house of the lot that is up has an epoch."""
    check_world(world)
    _check_lot(lot)
    return _told_epoch(world, lot)


def _told_epoch(world, lot):
    """As epoch_of, for what was checked."""
    driver = _told_driver(world, lot)
    if driver is None:
        return None
    house = world.houses[driver]
    if house.role == "over":
        return house.facts.epoch + 1, house.memory.state.next
    return house.facts.epoch, house.facts.circle


def is_calm(world, lot, value):
    """Whether the value is just the calm."""
    check_world(world)
    _check_lot(lot)
    # True would be equal to 1, but is not plain
    if not is_plain(value):
        return False
    try:
        return calm(world, lot) == value
    except (Refused, TooMany):
        return False
