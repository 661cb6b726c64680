"""The checks of arguments that are the same everywhere."""

from halvesmeet.base.values import MAX_CLIENTS, MAX_HOUSES, MAX_NUMBER, is_circle, is_within
from halvesmeet.errors import InvalidCircle, InvalidNumber, InvalidOperation


def check_number(given, least, most=MAX_NUMBER):
    """Refuses all but integers from least to most."""
    if not is_within(given, least, most):
        raise InvalidNumber(given)


def check_house(given):
    """Refuses all but numbers of houses."""
    check_number(given, 0, MAX_HOUSES - 1)


def check_client(given):
    """Refuses all but numbers of clients."""
    check_number(given, 0, MAX_CLIENTS - 1)


def check_circle(value):
    """Refuses all but circles."""
    if not is_circle(value):
        raise InvalidCircle("a circle is an ascending tuple of one to seven houses")


def check_without(value):
    """Refuses all but None and a string as the rule that is left out."""
    if value is not None and not isinstance(value, str):
        raise InvalidOperation("the rule to leave out is a string or None")
