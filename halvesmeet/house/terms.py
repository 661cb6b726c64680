"""Terms and who owns them; lots of houses, and what more than half of a circle have laid."""

from halvesmeet.base.checks import check_circle, check_house, check_number
from halvesmeet.base.values import MAX_HOUSES, MAX_NUMBER, are_indices, is_within
from halvesmeet.errors import InvalidOperation

MOST_TERMS = 1000
MOST_LOTS = 200


def is_lot(circle, value):
    """Whether the value is an ascending tuple of houses of a circle."""
    return are_indices(value, MAX_HOUSES) and all([house in circle for house in value])


def _check_lot(circle, lot):
    if not is_lot(circle, lot):
        raise InvalidOperation("a lot is an ascending tuple of houses of the circle")


def _check_laid(circle, laid):
    if not isinstance(laid, dict) or not all([is_lot(circle, (house,)) for house in laid]):
        raise InvalidOperation("what houses have laid is a dict from houses of the circle")
    if not all([is_within(length, 0, MAX_NUMBER) for length in laid.values()]):
        raise InvalidOperation("what a house has laid is an integer from 0 on")


def owner(circle, term):
    """The house that owns a term."""
    check_circle(circle)
    check_number(term, 0)
    return circle[term % len(circle)]


def own_term(circle, house, floor):
    """The least term above a floor that a house owns."""
    _check_own(circle, house, floor)
    return own_term_above(circle, house, floor)


def each_own_term(circle, house, floor, many):
    """So many terms above a floor that a house owns, the least ones."""
    check_circle(circle)
    check_house(house)
    check_number(floor, -1)
    check_number(many, 0, MOST_TERMS)
    _check_own(circle, house, floor)
    first = own_term_above(circle, house, floor)
    return tuple([first + number * len(circle) for number in range(many)])


def _check_own(circle, house, floor):
    check_circle(circle)
    check_house(house)
    check_number(floor, -1)
    if house not in circle:
        raise InvalidOperation("the house is not of the circle")


def own_term_above(circle, house, floor):
    """As own_term, for what was checked."""
    lowest = floor + 1
    return lowest + (circle.index(house) - lowest) % len(circle)


def is_more_than_half(circle, lot):
    """Whether a lot has more than half of the houses of a circle."""
    check_circle(circle)
    _check_lot(circle, lot)
    return is_enough(circle, len(lot), None)


def is_enough(circle, many, without):
    """Whether so many houses are more than half; just half are enough if this rule is left out."""
    return 2 * many > len(circle) or (without == "half" and 2 * many == len(circle))


def others(circle, lot):
    """The lot of all houses that are not in a lot."""
    check_circle(circle)
    _check_lot(circle, lot)
    return tuple([house for house in circle if house not in lot])


def least_halves(circle):
    """The ascending tuple of all lots that are more than half and have as few houses as can be."""
    check_circle(circle)
    return tuple(lots_of(circle, len(circle) // 2 + 1))


def lots_of(houses, many):
    """All lots of so many of some ascending houses, ascending."""
    if many == 0:
        return [()]
    found = []
    for at, house in enumerate(houses):
        for rest in lots_of(houses[at + 1:], many - 1):
            found.append((house,) + rest)
    return found


def common_house(circle, one, other):
    """The least house that is in both lots, None if there is none."""
    check_circle(circle)
    _check_lot(circle, one)
    _check_lot(circle, other)
    return _least_common(one, other)


def _least_common(one, other):
    return min([house for house in one if house in other], default=None)


def unmet(circle, lots):
    """The first pair of indices of lots that have no house in common, None if there is none."""
    check_circle(circle)
    if not isinstance(lots, tuple) or len(lots) > MOST_LOTS or not all([is_lot(circle, lot) for lot in lots]):
        raise InvalidOperation("lots are a tuple of at most 200 lots of the circle")
    for at, one in enumerate(lots):
        for later in range(at, len(lots)):
            if _least_common(one, lots[later]) is None:
                return at, later
    return None


def chosen_length(circle, laid):
    """The greatest length that more than half of a circle have laid at least."""
    check_circle(circle)
    _check_laid(circle, laid)
    return length_chosen(circle, laid, None)


def length_chosen(circle, laid, without):
    """As chosen_length, for what was checked; half of the circle can do if this rule is left out."""
    lengths = sorted([laid.get(house, 0) for house in circle], reverse=True)
    return lengths[(len(circle) - 1) // 2 if without == "half" else len(circle) // 2]


def holders(circle, laid, length):
    """The lot of the houses that have laid at least so much."""
    check_circle(circle)
    _check_laid(circle, laid)
    check_number(length, 0)
    return tuple([house for house in circle if laid.get(house, 0) >= length])
