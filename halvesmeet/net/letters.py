"""Letters between houses and clients, and the bag in which they lie."""

from halvesmeet.base.checks import check_client, check_house, check_number
from halvesmeet.base.values import MAX_NUMBER, is_circle, is_client, is_house, is_within
from halvesmeet.errors import InvalidLetter, InvalidOperation, TooMany
from halvesmeet.store.deeds import are_entries, is_answer, is_deed, word_of
from halvesmeet.store.states import is_parts

MAX_LETTERS = 400
MAX_CARRIED = 64
MAX_COUNT = 10 ** 9
HOUSE_WORDS = ("ask", "grant", "bar", "lay", "laid", "carry", "begun")
CLIENT_WORDS = ("deed", "answer", "try")

# a grant has these behind its term: accepted, decided, base, start, entries
GRANT_MEMBERS = 5


def _is_count(value):
    return is_within(value, 0, MAX_COUNT)


def _is_count_or_none(value):
    """Whether the value is a term, or -1, which stands for none."""
    return is_within(value, -1, MAX_COUNT)


def _is_call_number(value):
    return is_within(value, 1, MAX_NUMBER)


def _is_open_base(value):
    """Whether the value is the parts of a state without a next circle."""
    return is_parts(value) and value[0][2] is None


def _is_told_row(base, start, entries):
    """Whether a base, or None, and a start and entries tell a row."""
    if not _is_count(start) or not are_entries(entries) or len(entries) > MAX_CARRIED:
        return False
    return base is None or (_is_open_base(base) and base[0][1] == start)


def is_granted(value):
    """Whether the value is what a grant has behind its term."""
    if not isinstance(value, tuple) or len(value) != GRANT_MEMBERS:
        return False
    accepted, decided, base, start, entries = value
    return _is_count_or_none(accepted) and _is_count(decided) and _is_told_row(base, start, entries)


def _is_ask(rest):
    return len(rest) == 2 and _is_count(rest[0]) and _is_count(rest[1])


def _is_grant(rest):
    return len(rest) > 0 and _is_count(rest[0]) and is_granted(rest[1:])


def _is_bar(rest):
    return len(rest) == 2 and _is_count(rest[0]) and is_within(rest[1], rest[0] + 1, MAX_COUNT)


def _is_lay(rest):
    if len(rest) != 7:
        return False
    term, first, base, start, entries, decided, number = rest
    return all([_is_count(count) for count in (term, first, decided, number)]) and _is_told_row(base, start, entries)


def _is_laid(rest):
    return len(rest) == 3 and all([_is_count(count) for count in rest])


def _is_carry(rest):
    return len(rest) == 3 and is_circle(rest[0]) and _is_open_base(rest[1]) and _is_count_or_none(rest[2])


def _is_begun(rest):
    return rest == ()


# what stands behind the epoch and the two houses of a letter between houses
HOUSE_FORMS = {
    "ask": _is_ask, "grant": _is_grant, "bar": _is_bar, "lay": _is_lay, "laid": _is_laid, "carry": _is_carry,
    "begun": _is_begun}


def _is_call(letter):
    if len(letter) != 5 or not is_client(letter[1]) or not is_house(letter[2]):
        return False
    return _is_call_number(letter[3]) and is_deed(letter[4])


def _is_from_house_to_client(letter):
    return is_house(letter[1]) and is_client(letter[2]) and _is_call_number(letter[3])


def _is_reply(letter):
    return len(letter) == 6 and _is_from_house_to_client(letter) and is_answer(letter[4]) and _is_count(letter[5])


def _is_try(letter):
    if len(letter) != 7 or not _is_from_house_to_client(letter):
        return False
    _, _, _, _, other, epoch, circle = letter
    return (other is None or is_house(other)) and _is_count(epoch) and is_circle(circle)


CLIENT_FORMS = {"deed": _is_call, "answer": _is_reply, "try": _is_try}


def is_letter(value):
    """Whether the value is a letter."""
    word = word_of(value)
    if word not in CLIENT_FORMS:
        return is_house_letter(value)
    form = CLIENT_FORMS[word]
    return form(value)


def is_house_letter(value):
    """Whether the value is a letter between houses."""
    word = word_of(value)
    if word not in HOUSE_FORMS or len(value) < 4:
        return False
    form = HOUSE_FORMS[word]
    return _is_count(value[1]) and is_house(value[2]) and is_house(value[3]) and form(value[4:])


def check_letter(value):
    """Refuses all but letters."""
    if not is_letter(value):
        raise InvalidLetter("a letter has a word, whom it comes from and goes to, and what it tells")


def check_letters(value):
    """Refuses all but tuples of letters."""
    if not isinstance(value, tuple) or not all([is_letter(letter) for letter in value]):
        raise InvalidLetter("letters are a tuple of letters")


def sender(letter):
    """The pair of "house" or "client", and of the number of who sends the letter."""
    check_letter(letter)
    if letter[0] in HOUSE_WORDS:
        return "house", letter[2]
    return ("client" if letter[0] == "deed" else "house"), letter[1]


def receiver(letter):
    """The pair of "house" or "client", and of the number of who gets the letter."""
    check_letter(letter)
    return _address_of(letter)


def _address_of(letter):
    """As receiver, for a letter that was checked."""
    if letter[0] in HOUSE_WORDS:
        return "house", letter[3]
    return ("house" if letter[0] == "deed" else "client"), letter[2]


class Bag:
    """The letters that went, in their sequence; a bag never changes."""

    def __init__(self, letters=()):
        check_letters(letters)
        if len(letters) > MAX_LETTERS:
            raise TooMany(MAX_LETTERS)
        self._letters = letters

    @property
    def letters(self):
        """The tuple of the letters."""
        return self._letters

    def sent(self, letters):
        """The bag behind some more letters."""
        check_letters(letters)
        return _made(self._letters + letters)

    def taken(self, index):
        """The letter with an index, and the bag without it."""
        later = self.lost(index)
        return self._letters[index], later

    def lost(self, index):
        """The bag without the letter with an index."""
        check_number(index, 0, len(self._letters) - 1)
        return _made(self._letters[:index] + self._letters[index + 1:])

    def doubled(self, index):
        """The bag in which the letter with an index comes once more."""
        check_number(index, 0, len(self._letters) - 1)
        return _made(self._letters + (self._letters[index],))

    def to_house(self, house):
        """The indices of the letters that go to a house."""
        check_house(house)
        return _indices_to(self._letters, ("house", house))

    def to_client(self, client):
        """The indices of the letters that go to a client."""
        check_client(client)
        return _indices_to(self._letters, ("client", client))

    def has_same(self, other):
        """Whether each letter lies in both bags equally often."""
        if not isinstance(other, Bag):
            raise InvalidOperation("the other one is no bag")
        return _times_of(self._letters) == _times_of(other.letters)

    def __len__(self):
        return len(self._letters)

    def __iter__(self):
        return iter(self._letters)

    def __eq__(self, other):
        return isinstance(other, Bag) and self._letters == other._letters

    def __str__(self):
        return f"bag of {len(self._letters)} letters"


def _made(letters):
    """The bag with letters that were checked, of which the eldest ones are lost if they are too many."""
    bag = Bag()
    bag._letters = letters[-MAX_LETTERS:]
    return bag


def _indices_to(letters, goal):
    return tuple([index for index, letter in enumerate(letters) if _address_of(letter) == goal])


def _times_of(letters):
    """How often each letter lies there."""
    times = {}
    for letter in letters:
        times[letter] = times.get(letter, 0) + 1
    return times
