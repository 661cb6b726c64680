"""Histories, their orders, and the tables that show that there is none."""

from halvesmeet.base.values import MAX_KEYS, are_ascending, is_key, is_plain, is_value, ordered
from halvesmeet.errors import InvalidHistory, InvalidOperation, Refused, TooMany
from halvesmeet.store.deeds import READ_WORDS, do_deed
from halvesmeet.store.states import firsts
from halvesmeet.world.clients import are_rows, does_fit_clients
from halvesmeet.world.worlds import check_world, is_one_row

MAX_SHORT = 6
MAX_STANDINGS = 2000

FIRST_STANDING = ((), ())


def is_history(value):
    """Whether the value is a history."""
    return are_rows(value) and does_fit_clients(value)


def check_history(value):
    """Refuses all but histories."""
    if not is_history(value):
        raise InvalidHistory("a history has calls and answers that can come of clients")


def names(history):
    """The names of all calls, in their sequence."""
    check_history(history)
    return tuple([row[1:3] for row in history if row[0] == "call"])


def _calls_of(history):
    """For each name of a call its deed, its answer, and the places of both in the history; None twice without one."""
    calls = {}
    for place, row in enumerate(history):
        if row[0] == "call":
            calls[row[1:3]] = (row[3], None, place, None)
        else:
            deed, _, called, _ = calls[row[1:3]]
            calls[row[1:3]] = (deed, row[3], called, place)
    return calls


def is_order(history, value):
    """Whether the value is an order of a history."""
    check_history(history)
    if not isinstance(value, tuple) or not is_plain(value):
        return False
    calls = _calls_of(history)
    if not all([name in calls for name in value]) or len({name for name in value}) != len(value):
        return False
    answered = len([name for name in calls if calls[name][1] is not None])
    if len([name for name in value if calls[name][1] is not None]) != answered:
        return False
    return _does_keep_ahead(calls, value) and _has_answers(calls, value)


def _does_keep_ahead(calls, order):
    """Whether no call stands behind one that was called after its answer."""
    last = -1
    for name in order:
        _, _, called, answered = calls[name]
        if answered is not None and answered < last:
            return False
        last = max(last, called)
    return True


def _has_answers(calls, order):
    """Whether the plain store, doing the deeds in a sequence, gives each answered call its answer."""
    pairs = {}
    for name in order:
        deed, answer, _, _ = calls[name]
        pairs, given = do_deed(pairs, deed)
        if answer is not None and answer != given:
            return False
    return True


def order_paper(world):
    """The names of the order that the row of a world tells, with the reads behind what they saw."""
    check_world(world)
    if not is_one_row(world):
        raise Refused(("rows",))
    row = tuple([entry for _, entry in world.decided])
    # what stands at a length, entries ahead of reads; the reads stay in the sequence of their answers
    spots = [(index + 1, 0, row[index][:2]) for index in firsts(row)]
    deeds = {told[1:3]: told[3] for told in world.history if told[0] == "call"}
    for place, told in enumerate(world.history):
        if told[0] == "answer" and deeds[told[1:3]][0] in READ_WORDS:
            spots.append((told[4], place + 1, told[1:3]))
    return tuple([name for _, _, name in sorted(spots)])


def _is_standing(calls, value):
    """Whether a value is a standing of a history with these calls."""
    if not is_plain(value) or not isinstance(value, tuple) or len(value) != 2:
        return False
    named, pairs = value
    if not isinstance(named, tuple) or not all([name in calls for name in named]) or not are_ascending(named):
        return False
    if not isinstance(pairs, tuple) or len(pairs) > MAX_KEYS or not all([_is_pair(pair) for pair in pairs]):
        return False
    return are_ascending(tuple([key for key, _ in pairs]))


def _is_pair(value):
    return isinstance(value, tuple) and len(value) == 2 and is_key(value[0]) and is_value(value[1])


def standings_behind(history, standing):
    """The standings to which the calls lead that may be next at a standing."""
    check_history(history)
    calls = _calls_of(history)
    if not _is_standing(calls, standing):
        raise InvalidOperation("a standing has names of calls, and pairs")
    return ordered(tuple([later for _, later in _steps_from(calls, standing)]))


def _steps_from(calls, standing):
    """The pairs of the name of a call that may be next at a standing, and of the standing to which it leads."""
    named, pairs = standing
    left = [name for name in calls if name not in named]
    # a call may be next if it was called ahead of the first answer to one that is left
    reach = min([calls[name][3] for name in left if calls[name][3] is not None], default=None)
    found = []
    for name in left:
        deed, answer, called, _ = calls[name]
        if reach is None or called < reach:
            later, given = do_deed({key: worth for key, worth in pairs}, deed)
            if answer is None or answer == given:
                behind = tuple([(key, later[key]) for key in sorted(later)])
                found.append((name, (tuple(sorted(named + (name,))), behind)))
    return found


def _check_short(history):
    check_history(history)
    if len([row for row in history if row[0] == "call"]) > MAX_SHORT:
        raise TooMany(MAX_SHORT)


def history_paper(history):
    """An order of a short history, or a closed table without an end."""
    _check_short(history)
    calls = _calls_of(history)
    ways = {FIRST_STANDING: ()}
    waiting = [FIRST_STANDING]
    while waiting:
        standing = waiting.pop()
        if _names_answered(calls, standing):
            return "order", ways[standing]
        for name, later in _steps_from(calls, standing):
            if later not in ways:
                ways[later] = ways[standing] + (name,)
                waiting.append(later)
    return "table", ordered(tuple(ways))


def _names_answered(calls, standing):
    """Whether all answered calls are named in a standing."""
    return all([name in standing[0] for name in calls if calls[name][1] is not None])


def is_history_paper(history, value):
    """Whether the value is an order of a short history, or a closed table without an end."""
    _check_short(history)
    if not isinstance(value, tuple) or len(value) != 2 or not is_plain(value):
        return False
    if value[0] == "order":
        return is_order(history, value[1])
    return value[0] == "table" and _is_closed_without_end(_calls_of(history), value[1])


def _is_closed_without_end(calls, value):
    """Whether a plain value is a closed table without an end."""
    if not isinstance(value, tuple) or len(value) > MAX_STANDINGS or ordered(value) != value:
        return False
    if FIRST_STANDING not in value or not all([_is_standing(calls, standing) for standing in value]):
        return False
    known = {standing: True for standing in value}
    for standing in value:
        if _names_answered(calls, standing):
            return False
        if not all([later in known for _, later in _steps_from(calls, standing)]):
            return False
    return True
