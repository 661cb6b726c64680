"""The plain store: deeds on pairs of keys and values, and their answers."""

from halvesmeet.base.values import (
    MAX_KEYS, MAX_LOT, are_ascending, is_circle, is_client, is_number, is_key, is_short_number, is_value,
    is_within)
from halvesmeet.errors import InvalidDeed, InvalidState

MAX_SUM = 10 ** 12 - 1
DEED_WORDS = ("put", "drop", "get", "add", "swap", "list", "all", "circle")

LOT_WORDS = ("put", "drop", "get", "add", "swap")
READ_WORDS = ("get", "list")
STOP_WORD = "circle"
LOT_ANSWERS = ("was", "is", "sum", "swapped")
# a lot is not done at all if one of its deeds has an answer with one of these words
BREAKS = ("kind", "bound", "full", "other")
# no answer to "list" has the greatest of all keys: it tells those below another key
GREATEST_KEY = "zzzzzzzz"


def are_pairs(value):
    """Whether the value is a dict from at most 24 keys to values."""
    if not isinstance(value, dict) or len(value) > MAX_KEYS:
        return False
    return all([is_key(key) and is_value(worth) for key, worth in value.items()])


def _is_worth(value):
    """Whether the value is a value of the store, or None, as for a free key."""
    return value is None or is_value(value)


def word_of(value):
    """The word with which a tuple begins, None for anything else."""
    if isinstance(value, tuple) and len(value) > 0 and isinstance(value[0], str):
        return value[0]
    return None


def _is_put(value):
    return len(value) == 3 and is_key(value[1]) and is_value(value[2])


def _is_of_key(value):
    return len(value) == 2 and is_key(value[1])


def _is_add(value):
    return len(value) == 3 and is_key(value[1]) and is_short_number(value[2])


def _is_swap(value):
    return len(value) == 4 and is_key(value[1]) and _is_worth(value[2]) and _is_worth(value[3])


def _is_list(value):
    return len(value) == 3 and is_key(value[1]) and is_key(value[2])


def _is_all(value):
    if len(value) != 2 or not _has_lot_size(value[1]):
        return False
    return all([word_of(part) in LOT_WORDS and is_deed(part) for part in value[1]])


def _has_lot_size(value):
    return isinstance(value, tuple) and 1 <= len(value) <= MAX_LOT


def _is_of_circle(value):
    return len(value) == 2 and is_circle(value[1])


DEED_FORMS = {
    "put": _is_put, "drop": _is_of_key, "get": _is_of_key, "add": _is_add, "swap": _is_swap,
    "list": _is_list, "all": _is_all, "circle": _is_of_circle}


def is_deed(value):
    """Whether the value is a deed."""
    word = word_of(value)
    if word not in DEED_FORMS:
        return False
    form = DEED_FORMS[word]
    return form(value)


def check_deed(deed):
    """Refuses all but deeds."""
    if not is_deed(deed):
        raise InvalidDeed("a deed has a word, and what it is done with")


def is_read(deed):
    """Whether a deed is a read."""
    check_deed(deed)
    return deed[0] in READ_WORDS


def is_entry(value):
    """Whether the value is an entry: a client, a number from 1 on, and a deed."""
    if not isinstance(value, tuple) or len(value) != 3:
        return False
    return is_client(value[0]) and is_number(value[1]) and value[1] >= 1 and is_deed(value[2])


def is_stop(entry):
    """Whether the deed of an entry is a stop."""
    return entry[2][0] == STOP_WORD


def check_entry(entry):
    """Refuses all but entries."""
    if not is_entry(entry):
        raise InvalidDeed("an entry has a client, a number and a deed")


def are_entries(value):
    """Whether the value is a tuple of entries."""
    return isinstance(value, tuple) and all([is_entry(entry) for entry in value])


def check_entries(entries):
    """Refuses all but tuples of entries."""
    if not are_entries(entries):
        raise InvalidDeed("entries are a tuple of entries")


def _is_word_alone(value):
    return len(value) == 1


def _has_worth(value):
    return len(value) == 2 and _is_worth(value[1])


def _has_sum(value):
    return len(value) == 2 and is_short_number(value[1])


def _has_place_in_lot(value):
    return len(value) == 2 and is_within(value[1], 0, MAX_LOT - 1)


def _has_answers(value):
    if len(value) != 2 or not _has_lot_size(value[1]):
        return False
    return all([word_of(part) in LOT_ANSWERS and is_answer(part) for part in value[1]])


def _has_rows(value):
    if len(value) != 2 or not isinstance(value[1], tuple) or len(value[1]) > MAX_KEYS:
        return False
    if not all([_is_row(row) for row in value[1]]):
        return False
    return are_ascending([key for key, _ in value[1]])


def _is_row(value):
    """Whether the value is a pair of a key and a value that "list" can tell."""
    if not isinstance(value, tuple) or len(value) != 2:
        return False
    return is_key(value[0]) and value[0] < GREATEST_KEY and is_value(value[1])


ANSWER_FORMS = {
    "was": _has_worth, "is": _has_worth, "other": _has_worth, "sum": _has_sum, "swapped": _is_word_alone,
    "rows": _has_rows, "done": _has_answers, "none": _has_place_in_lot, "next": _is_of_circle,
    "kind": _is_word_alone, "bound": _is_word_alone, "full": _is_word_alone}


def is_answer(value):
    """Whether the value is an answer that some deed has from some pairs, a refusal too."""
    word = word_of(value)
    if word not in ANSWER_FORMS:
        return False
    form = ANSWER_FORMS[word]
    return form(value)


def keys_of(deed):
    """The ascending tuple of the keys of a deed."""
    check_deed(deed)
    if deed[0] == "all":
        return tuple(sorted({part[1] for part in deed[1]}))
    if deed[0] in LOT_WORDS:
        return (deed[1],)
    return ()


def _lacks_room(pairs, key):
    """Whether the key would be a 25th one."""
    return key not in pairs and len(pairs) >= MAX_KEYS


def _exchanged(pairs, key, worth):
    """The pairs in which a key has a value, or is free."""
    later = dict(pairs)
    if worth is None:
        later.pop(key, None)
    else:
        later[key] = worth
    return later


def _do_put(pairs, deed):
    _, key, worth = deed
    if _lacks_room(pairs, key):
        return pairs, ("full",)
    return _exchanged(pairs, key, worth), ("was", pairs.get(key))


def _do_drop(pairs, deed):
    return _exchanged(pairs, deed[1], None), ("was", pairs.get(deed[1]))


def _do_get(pairs, deed):
    return pairs, ("is", pairs.get(deed[1]))


def _do_add(pairs, deed):
    _, key, number = deed
    old = pairs.get(key, 0)
    if isinstance(old, str):
        return pairs, ("kind",)
    total = old + number
    if abs(total) > MAX_SUM:
        return pairs, ("bound",)
    if _lacks_room(pairs, key):
        return pairs, ("full",)
    return _exchanged(pairs, key, total), ("sum", total)


def _do_swap(pairs, deed):
    _, key, old, new = deed
    if pairs.get(key) != old:
        return pairs, ("other", pairs.get(key))
    if new is not None and _lacks_room(pairs, key):
        return pairs, ("full",)
    return _exchanged(pairs, key, new), ("swapped",)


def _do_list(pairs, deed):
    _, first, last = deed
    return pairs, ("rows", tuple([(key, pairs[key]) for key in sorted(pairs) if first <= key < last]))


def _do_all(pairs, deed):
    later = pairs
    answers = []
    for index, part in enumerate(deed[1]):
        later, answer = do_deed(later, part)
        if answer[0] in BREAKS:
            return pairs, ("none", index)
        answers.append(answer)
    return later, ("done", tuple(answers))


def _do_circle(pairs, deed):
    return pairs, ("next", deed[1])


DEED_STEPS = {
    "put": _do_put, "drop": _do_drop, "get": _do_get, "add": _do_add, "swap": _do_swap,
    "list": _do_list, "all": _do_all, "circle": _do_circle}


def do_deed(pairs, deed):
    """As done, for what was checked; the pairs are the same dict if nothing changes."""
    step = DEED_STEPS[deed[0]]
    return step(pairs, deed)


def done(pairs, deed):
    """The pairs behind a deed, and its answer."""
    _check_pairs(pairs)
    check_deed(deed)
    later, answer = do_deed(pairs, deed)
    return by_keys(later), answer


def run_deeds(pairs, deeds):
    """The pairs behind some deeds, done one behind the other, and their answers."""
    _check_pairs(pairs)
    if not isinstance(deeds, tuple) or not all([is_deed(deed) for deed in deeds]):
        raise InvalidDeed("deeds are a tuple of deeds")
    answers = []
    later = pairs
    for deed in deeds:
        later, answer = do_deed(later, deed)
        answers.append(answer)
    return by_keys(later), tuple(answers)


def _check_pairs(pairs):
    if not are_pairs(pairs):
        raise InvalidState("pairs are a dict from at most 24 keys to values")


def by_keys(table):
    """A copy of a dict, with ascending keys."""
    return {key: table[key] for key in sorted(table)}
