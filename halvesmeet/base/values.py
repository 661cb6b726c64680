"""Plain values: what they are, their order and their texts."""

from halvesmeet.errors import InvalidOperation, ParseError

MAX_HOUSES = 9
MAX_CIRCLE = 7
MAX_CLIENTS = 5
MAX_KEYS = 24
MAX_SIGNS = 12
MAX_LOT = 6
MAX_NEST = 12
MAX_STRING = 3000

MAX_KEY_SIGNS = 8
MAX_DIGITS = 60
MAX_NUMBER = 10 ** 60 - 1
MAX_SHORT_NUMBER = 10 ** 12 - 1
LETTERS = "abcdefghijklmnopqrstuvwxyz"
DIGITS = "0123456789"
SIGNS = "abcdefghijklmnopqrstuvwxyz0123456789 "


def is_number(value):
    """Whether the value is an integer of at most sixty digits."""
    if not isinstance(value, int) or isinstance(value, bool):
        return False
    return -MAX_NUMBER <= value <= MAX_NUMBER


def is_within(value, least, most):
    """Whether the value is an integer from least to most."""
    return is_number(value) and least <= value <= most


def is_house(value):
    """Whether the value is the number of a house."""
    return is_within(value, 0, MAX_HOUSES - 1)


def is_client(value):
    """Whether the value is the number of a client."""
    return is_within(value, 0, MAX_CLIENTS - 1)


def is_circle(value):
    """Whether the value is an ascending tuple of one to seven houses."""
    return are_indices(value, MAX_HOUSES) and 1 <= len(value) <= MAX_CIRCLE


def are_indices(value, many):
    """Whether the value is an ascending tuple of integers from 0 to below many."""
    if not isinstance(value, tuple):
        return False
    if not all([is_within(index, 0, many - 1) for index in value]):
        return False
    return are_ascending(value)


def are_ascending(row):
    """Whether the integers, or the strings, of a tuple ascend strictly."""
    return all([one < other for one, other in zip(row, row[1:])])


def is_made_of(value, signs, most):
    """Whether the value is a string of at most so many characters, all of them told."""
    # strip leaves something behind just if a character is none of the told ones
    return isinstance(value, str) and len(value) <= most and value.strip(signs) == ""


def is_key(value):
    """Whether the value is a key of the store."""
    return is_made_of(value, LETTERS, MAX_KEY_SIGNS) and len(value) > 0


def is_short_number(value):
    """Whether the value is an integer of at most twelve digits."""
    return is_within(value, -MAX_SHORT_NUMBER, MAX_SHORT_NUMBER)


def is_value(value):
    """Whether the value is a value of the store."""
    return is_short_number(value) or is_made_of(value, SIGNS, MAX_SIGNS)


def is_plain(value):
    """Whether the value is plain."""
    return is_plain_within(value, MAX_NEST)


def is_plain_within(value, most):
    """Whether the value is plain, with tuples nested at most so deep."""
    # level by level, as values can be too deep for recursion
    level = [value]
    nest = 0
    while level:
        inner = []
        for part in level:
            if isinstance(part, tuple):
                inner.append(part)
            elif not _is_single(part):
                return False
        if inner:
            nest += 1
        if nest > most:
            return False
        level = [member for row in inner for member in row]
    return True


def _is_single(value):
    """Whether the value is plain and no tuple."""
    return value is None or is_number(value) or is_made_of(value, SIGNS, MAX_STRING)


def is_less(one, other):
    """Whether one plain value is less than another one."""
    _check_plain(one)
    _check_plain(other)
    return _sort_key(one) < _sort_key(other)


def ordered(values):
    """The members of a plain tuple, ascending, equal ones once."""
    _check_plain(values)
    if not isinstance(values, tuple):
        raise InvalidOperation("only tuples can be ordered")
    found = []
    for value in sorted(values, key=_sort_key):
        if not found or found[-1] != value:
            found.append(value)
    return tuple(found)


def _check_plain(value):
    if not is_plain(value):
        raise InvalidOperation("a value is not plain")


def _sort_key(value):
    """A tuple that Python orders as the document orders the plain value."""
    if value is None:
        return (0,)
    if isinstance(value, int):
        return (1, value)
    if isinstance(value, str):
        return (2, value)
    return (3, tuple([_sort_key(member) for member in value]))


def write_plain(value):
    """The text of a plain value."""
    _check_plain(value)
    return _text_of(value)


def _text_of(value):
    if value is None:
        return "."
    if isinstance(value, int):
        return str(value)
    if isinstance(value, str):
        return "'" + value + "'"
    return "(" + ",".join([_text_of(member) for member in value]) + ")"


def read_plain(text):
    """The plain value with a text."""
    if not isinstance(text, str):
        raise ParseError(None)
    value, end = _read_value(text, 0, 0)
    if end < len(text):
        raise ParseError(end)
    return value


def _read_value(text, start, nest):
    """The value whose text begins at an index, within so many brackets, and its end."""
    sign = text[start:start + 1]
    if sign == ".":
        return None, start + 1
    if sign == "'":
        return _read_string(text, start + 1)
    if sign == "(" and nest < MAX_NEST:
        return _read_tuple(text, start + 1, nest + 1)
    if sign == "-":
        number, end = _read_digits(text, start + 1, "123456789")
        return -number, end
    return _read_digits(text, start, DIGITS)


def _read_string(text, start):
    end = start
    while end < len(text) and text[end] in SIGNS and end - start < MAX_STRING:
        end += 1
    if text[end:end + 1] != "'":
        raise ParseError(end)
    return text[start:end], end + 1


def _read_digits(text, start, firsts):
    """The number at an index, whose first digit is one of the told ones, and its end."""
    if start == len(text) or text[start] not in firsts:
        raise ParseError(start)
    end = start + 1
    # no digit goes on behind a zero that stands first: numbers have no zeros ahead
    if text[start] != "0":
        while end < len(text) and text[end] in DIGITS and end - start < MAX_DIGITS:
            end += 1
    return int(text[start:end]), end


def _read_tuple(text, start, nest):
    if text[start:start + 1] == ")":
        return (), start + 1
    members = []
    end = start
    sign = ","
    while sign == ",":
        member, end = _read_value(text, end, nest)
        members.append(member)
        sign = text[end:end + 1]
        end += 1
    if sign != ")":
        raise ParseError(end - 1)
    return tuple(members), end
