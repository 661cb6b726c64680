"""Clients: they number their calls, and look for the house that leads."""

from halvesmeet.base.checks import check_circle, check_client, check_house
from halvesmeet.base.values import is_client, is_number, is_plain
from halvesmeet.errors import InvalidHistory, InvalidOperation, TooMany
from halvesmeet.net.letters import receiver
from halvesmeet.store.deeds import check_deed, is_deed

MOST_CALLS = 3000
MOST_MEMBERS = 3000


class Client:
    """One that calls, one deed at a time; a client never changes, each call or letter leads to another one."""

    def __init__(self, number, circle):
        check_client(number)
        check_circle(circle)
        self._number = number
        self._calls = 0
        self._open_call = None
        self._epoch = 0
        self._circle = circle
        self._asks = circle[0]

    @property
    def number(self):
        """The number of the client."""
        return self._number

    @property
    def calls(self):
        """How many calls it has made."""
        return self._calls

    @property
    def open_call(self):
        """The number and the deed of its open call, or None."""
        return self._open_call

    @property
    def epoch(self):
        """The epoch that it knows."""
        return self._epoch

    @property
    def circle(self):
        """The circle of this epoch."""
        return self._circle

    @property
    def asks(self):
        """The house of this circle that it asks."""
        return self._asks

    def called(self, deed):
        """The client behind a call, and the letter of the call."""
        check_deed(deed)
        if self._open_call is not None:
            raise InvalidOperation("a call is open")
        if self._calls >= MOST_CALLS:
            raise TooMany(MOST_CALLS)
        later = _copy_of(self)
        later._calls = self._calls + 1
        later._open_call = (later._calls, deed)
        return later, _letter_of(later, later._asks)

    def again(self, house):
        """The client behind calling once more, to a house, and the letter of the call."""
        check_house(house)
        _check_open(self)
        later = _copy_of(self)
        if house in self._circle:
            later._asks = house
        return later, _letter_of(later, house)

    def given_up(self):
        """The client without its open call."""
        _check_open(self)
        later = _copy_of(self)
        later._open_call = None
        return later

    def taken(self, letter):
        """The client behind a letter, and the pair of answer and length that closes its call, or None."""
        if receiver(letter) != ("client", self._number):
            raise InvalidOperation("the letter goes elsewhere")
        if letter[0] == "try":
            return _behind_try(self, letter), None
        _, _, _, number, answer, length = letter
        if self._open_call is None or self._open_call[0] != number:
            return self, None
        return self.given_up(), (answer, length)

    def __eq__(self, other):
        return isinstance(other, Client) and _members_of(self) == _members_of(other)

    def __str__(self):
        if self._open_call is None:
            return f"client {self._number}: {self._calls} calls, asks {self._asks}"
        return f"client {self._number}: {self._calls} calls, asks {self._asks}, open {self._open_call[0]}"


def _members_of(client):
    """What equal clients have in common."""
    return client.number, client.calls, client.open_call, client.epoch, client.circle, client.asks


def _copy_of(client):
    """A client that is equal, of which some members can be set before anybody sees it."""
    later = Client(client.number, client.circle)
    later._calls = client.calls
    later._open_call = client.open_call
    later._epoch = client.epoch
    later._asks = client.asks
    return later


def _check_open(client):
    if client.open_call is None:
        raise InvalidOperation("no call is open")


def _letter_of(client, house):
    """The letter of the open call to a house."""
    number, deed = client.open_call
    return "deed", client.number, house, number, deed


def _behind_try(client, letter):
    """The client behind a letter that tells whom to ask."""
    _, sender, _, number, other, epoch, circle = letter
    later = _copy_of(client)
    if epoch > client.epoch:
        later._epoch = epoch
        later._circle = circle
        later._asks = other if other in circle else circle[0]
    elif epoch == client.epoch and client.open_call is not None and client.open_call[0] == number:
        later._asks = other if other in client.circle else _next_of(client.circle, sender)
    return later


def _next_of(circle, house):
    """The house of a circle that comes behind another one, the least one behind the last or an unknown one."""
    if house not in circle:
        return circle[0]
    return circle[(circle.index(house) + 1) % len(circle)]


def is_row(value):
    """Whether a plain value is a call or an answer, as in a history."""
    if not isinstance(value, tuple) or len(value) < 4 or not _is_named(value):
        return False
    if value[0] == "call":
        return len(value) == 4 and is_deed(value[3])
    return value[0] == "answer" and len(value) == 5 and isinstance(value[3], tuple) and _is_length(value[4])


def _is_named(value):
    """Whether a client and the number of a call stand behind the word."""
    return is_client(value[1]) and is_number(value[2]) and value[2] >= 1


def _is_length(value):
    return is_number(value) and value >= 0


def are_rows(value):
    """Whether the value is a plain tuple of calls and answers, however they stand."""
    if not isinstance(value, tuple) or len(value) > MOST_MEMBERS or not is_plain(value):
        return False
    return all([is_row(row) for row in value])


def does_fit_clients(history):
    """Whether calls and answers can come of clients."""
    if not are_rows(history):
        raise InvalidHistory("these are no calls and answers, or too many")
    calls = {}
    waiting = {}
    for row in history:
        client, number = row[1], row[2]
        if row[0] == "call":
            if number != calls.get(client, 0) + 1:
                return False
            calls[client] = number
            waiting[client] = number
        elif waiting.pop(client, None) != number:
            return False
    return True
