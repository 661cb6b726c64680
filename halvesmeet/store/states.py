"""States: what the store is behind a beginning of the row."""

from halvesmeet.base.checks import check_client, check_number
from halvesmeet.base.values import is_circle, is_client, is_key, is_number, is_within
from halvesmeet.errors import InvalidOperation, InvalidState
from halvesmeet.store.deeds import are_pairs, by_keys, check_entries, check_entry, do_deed, is_answer, is_stop

MAX_LENGTH = 10 ** 9


class State:
    """The length of a beginning of the row, and what it left; a state never changes."""

    def __init__(self, length, pairs, sessions, next_circle):
        check_number(length, 0, MAX_LENGTH)
        if not _are_right(length, pairs, sessions, next_circle):
            raise InvalidState("the parts are not those of a state")
        self._length = length
        self._pairs = by_keys(pairs)
        self._sessions = by_keys(sessions)
        self._next = next_circle

    @classmethod
    def first(cls):
        """The state of the row without entries."""
        return cls(0, {}, {}, None)

    @property
    def length(self):
        """The number of the entries behind which the state stands."""
        return self._length

    @property
    def pairs(self):
        """The values of the keys that are not free."""
        return dict(self._pairs)

    @property
    def sessions(self):
        """For each client the number and the answer of its last deed, and the length behind it."""
        return dict(self._sessions)

    @property
    def next(self):
        """The circle of the stop that was done, or None."""
        return self._next

    def done(self, entry):
        """The state behind one more entry, and its answer, None for a late one."""
        check_entry(entry)
        later = run_entries(self, (entry,))
        return later, later.kept(entry[0], entry[1])

    def run(self, entries):
        """The state behind some more entries."""
        check_entries(entries)
        return run_entries(self, entries)

    def kept(self, client, number):
        """The answer of the session of a client if it has this number, else None."""
        check_client(client)
        check_number(number, 0)
        if client in self._sessions and self._sessions[client][0] == number:
            return self._sessions[client][1]
        return None

    def is_late(self, client, number):
        """Whether the session of a client has a greater number."""
        check_client(client)
        check_number(number, 0)
        return client in self._sessions and self._sessions[client][0] > number

    def reopened(self):
        """The same state without its next circle."""
        if self._next is None:
            raise InvalidOperation("no stop has been done")
        return _made(self._length, self._pairs, self._sessions, None)

    def parts(self):
        """The state as a tuple of plain tuples."""
        pairs = [("pair", key, worth) for key, worth in self._pairs.items()]
        sessions = [("session", client) + session for client, session in self._sessions.items()]
        return (("state", self._length, self._next),) + tuple(pairs + sessions)

    def __eq__(self, other):
        return isinstance(other, State) and self.parts() == other.parts()

    def __str__(self):
        if self._next is None:
            return f"state of {self._length} entries: {len(self._pairs)} keys, {len(self._sessions)} sessions"
        return f"state of {self._length} entries: {len(self._pairs)} keys, {len(self._sessions)} sessions, stopped"


def _made(length, pairs, sessions, stop):
    """The state with parts that are known to be right: to check them at each step takes long."""
    state = State.first()
    state._length = length
    state._pairs = by_keys(pairs)
    state._sessions = by_keys(sessions)
    state._next = stop
    return state


def run_entries(state, entries):
    """As State.run, for entries that were checked."""
    length, pairs, sessions, stop = state.length, state.pairs, state.sessions, state.next
    for entry in entries:
        if stop is not None or length == MAX_LENGTH:
            raise InvalidOperation("nothing is done behind a stop, or behind so many entries")
        client, number, deed = entry
        length += 1
        if client not in sessions or number > sessions[client][0]:
            pairs, answer = do_deed(pairs, deed)
            sessions[client] = (number, answer, length)
            stop = deed[1] if is_stop(entry) else None
    return _made(length, pairs, sessions, stop)


def check_state(value):
    """Refuses all but states."""
    if not isinstance(value, State):
        raise InvalidState("a state is an object of the class State")


def _are_right(length, pairs, sessions, stop):
    """Whether parts behind a right length are those of a state."""
    if not are_pairs(pairs) or not _are_sessions(sessions, length):
        return False
    if stop is None:
        return True
    if not is_circle(stop):
        return False
    # a stop is the last thing that is done: just one session can tell of it
    return ("next", stop) in [session[1] for session in sessions.values() if session[2] == length]


def _are_sessions(value, length):
    """Whether the value is a dict from clients to sessions behind so many entries."""
    if not isinstance(value, dict) or not all([is_client(client) for client in value]):
        return False
    if not all([_is_session(session, length) for session in value.values()]):
        return False
    return len({session[2] for session in value.values()}) == len(value)


def _is_session(value, length):
    if not isinstance(value, tuple) or len(value) != 3:
        return False
    number, answer, place = value
    return is_number(number) and number >= 1 and is_answer(answer) and is_within(place, 1, length)


def is_parts(value):
    """Whether the value is what parts tells of some state."""
    return _state_told(value) is not None


def state_of_parts(parts):
    """The state with these parts."""
    state = _state_told(parts)
    if state is None:
        raise InvalidState("these are not the parts of a state")
    return state


def _state_told(value):
    """The state with these parts, or None."""
    if not isinstance(value, tuple):
        return None
    heads = [part[1:] for part in value if _is_part(part, "state", 3)]
    pairs = {part[1]: part[2] for part in value if _is_part(part, "pair", 3) and is_key(part[1])}
    sessions = {part[1]: part[2:] for part in value if _is_part(part, "session", 5) and is_client(part[1])}
    if len(heads) == 0 or not is_within(heads[0][0], 0, MAX_LENGTH):
        return None
    length, stop = heads[0]
    if not _are_right(length, pairs, sessions, stop):
        return None
    state = _made(length, pairs, sessions, stop)
    # what stands elsewhere, or is no part at all, makes the parts of the state unlike the value
    return state if state.parts() == value else None


def _is_part(value, word, many):
    return isinstance(value, tuple) and len(value) == many and value[0] == word


def firsts(entries):
    """The ascending tuple of the indices of the firsts."""
    check_entries(entries)
    greatest = {}
    found = []
    for index, (client, number, _) in enumerate(entries):
        if number > greatest.get(client, 0):
            greatest[client] = number
            found.append(index)
    return tuple(found)
