"""Pictures: what lies on all disks of an epoch, which of them are sound, and the actions that keep them so."""

from halvesmeet.base.checks import check_circle
from halvesmeet.base.values import MAX_NUMBER, is_house, is_within
from halvesmeet.errors import InvalidNumber, InvalidOperation, InvalidPicture
from halvesmeet.house.terms import is_enough, is_lot, length_chosen
from halvesmeet.store.deeds import are_entries, by_keys, is_entry, word_of


def _is_count(value):
    return is_within(value, 0, MAX_NUMBER)


def _has_houses(value, circle):
    """Whether the value is a dict from just the houses of a circle."""
    return isinstance(value, dict) and all([is_house(house) for house in value]) and sorted(value) == list(circle)


def _is_of_terms(value):
    return isinstance(value, dict) and all([_is_count(term) for term in value])


def _are_promises(value, circle):
    return _has_houses(value, circle) and all([is_within(term, -1, MAX_NUMBER) for term in value.values()])


def _are_rows(value):
    return _is_of_terms(value) and all([are_entries(row) for row in value.values()])


def _are_counts(value):
    """Whether the value is a dict from terms to integers from 0 on."""
    return _is_of_terms(value) and all([_is_count(many) for many in value.values()])


def _are_votes(value, circle):
    return _has_houses(value, circle) and all([_are_counts(told) for told in value.values()])


class Picture:
    """What the houses of a circle have promised and accepted, and the rows of the led terms; it never changes."""

    def __init__(self, circle, promised, rows, firsts, votes):
        check_circle(circle)
        if not _are_promises(promised, circle) or not _are_rows(rows) or not _are_counts(firsts):
            raise InvalidPicture("promises, rows or first lengths are not those of a picture")
        if sorted(rows) != sorted(firsts) or not _are_votes(votes, circle):
            raise InvalidPicture("each led term has a row and a first length, each house of the circle has votes")
        self._circle = circle
        self._promised = by_keys(promised)
        self._rows = by_keys(rows)
        self._firsts = by_keys(firsts)
        self._votes = {house: by_keys(votes[house]) for house in circle}

    @classmethod
    def first(cls, circle):
        """The picture without promises, rows and votes."""
        check_circle(circle)
        return cls(circle, {house: -1 for house in circle}, {}, {}, {house: {} for house in circle})

    @property
    def circle(self):
        """The circle of the epoch."""
        return self._circle

    @property
    def promised(self):
        """For each house the greatest term that it has promised, -1 for none."""
        return dict(self._promised)

    @property
    def rows(self):
        """For each led term the row of its owner."""
        return dict(self._rows)

    @property
    def firsts(self):
        """For each led term how many entries its owner began with."""
        return dict(self._firsts)

    @property
    def votes(self):
        """For each house how many entries it has accepted in each term."""
        return {house: dict(told) for house, told in self._votes.items()}

    def is_let(self, value):
        """Whether the value is an action that is let."""
        word = word_of(value)
        if word not in LETS:
            return False
        test = LETS[word]
        return test(self, value)

    def done(self, action):
        """The picture behind an action."""
        if not self.is_let(action):
            raise InvalidOperation("this is no action that is let")
        step = ACTION_STEPS[action[0]]
        return step(self, action)

    def chosen(self, term):
        """How many entries of a term row are chosen."""
        _check_led(self, term)
        laid = {house: told.get(term, 0) for house, told in self._votes.items()}
        return min(len(self._rows[term]), length_chosen(self._circle, laid, None))

    def choosable(self, term):
        """How many entries of a term row are open."""
        _check_led(self, term)
        return _open_many(self, term)

    def fault(self):
        """The first sentence that is broken, or None."""
        for sentence in SENTENCES:
            found = sentence(self)
            if found is not None:
                return found
        return None

    def row(self):
        """The chosen row."""
        if self.fault() is not None:
            raise InvalidOperation("the picture is not sound")
        longest = ()
        for term, row in self._rows.items():
            if self.chosen(term) > len(longest):
                longest = row[:self.chosen(term)]
        return longest

    def __eq__(self, other):
        return isinstance(other, Picture) and _members_of(self) == _members_of(other)


def _members_of(picture):
    """What equal pictures have in common."""
    return picture.circle, picture.promised, picture.rows, picture.firsts, picture.votes


def made_picture(circle, promised, rows, firsts, votes):
    """The picture with members that are known to be right, all dicts having ascending keys."""
    picture = Picture((0,), {0: -1}, {}, {}, {0: {}})
    picture._circle = circle
    picture._promised = promised
    picture._rows = rows
    picture._firsts = firsts
    picture._votes = votes
    return picture


def check_picture(value):
    """Refuses all but pictures."""
    if not isinstance(value, Picture):
        raise InvalidPicture("a picture is an object of the class Picture")


def _check_led(picture, term):
    if not _is_count(term) or term not in picture.rows:
        raise InvalidNumber(term)


def _open_many(picture, term):
    """As Picture.choosable, for a led term."""
    whole = len(picture.rows[term])
    promised, votes = picture.promised, picture.votes
    # who has promised no greater term can still accept all of the row
    laid = {house: whole if promised[house] <= term else votes[house].get(term, 0) for house in picture.circle}
    return min(whole, length_chosen(picture.circle, laid, None))


def _may_promise(picture, action):
    if len(action) != 3 or not is_house(action[1]) or action[1] not in picture.circle:
        return False
    return is_within(action[2], picture.promised[action[1]] + 1, MAX_NUMBER)


def _may_lead(picture, action):
    if len(action) != 3 or not _is_count(action[1]) or action[1] in picture.rows:
        return False
    _, term, lot = action
    if not is_lot(picture.circle, lot) or not is_enough(picture.circle, len(lot), None):
        return False
    return all([picture.promised[house] >= term for house in lot])


def _may_append(picture, action):
    return len(action) == 3 and _is_count(action[1]) and action[1] in picture.rows and is_entry(action[2])


def _may_vote(picture, action):
    if len(action) != 4 or not is_house(action[1]) or action[1] not in picture.circle:
        return False
    _, house, term, many = action
    if not _is_count(term) or term not in picture.rows or picture.promised[house] > term:
        return False
    least = max(picture.firsts[term], picture.votes[house].get(term, 0))
    return is_within(many, least, len(picture.rows[term]))


LETS = {"promise": _may_promise, "lead": _may_lead, "append": _may_append, "vote": _may_vote}


def _with(table, key, told):
    """A copy of a dict in which a key has another value."""
    later = dict(table)
    later[key] = told
    return by_keys(later)


def _behind_promise(picture, action):
    _, house, term = action
    promised = _with(picture.promised, house, term)
    return made_picture(picture.circle, promised, picture.rows, picture.firsts, picture.votes)


def first_row(picture, term, lot):
    """The row with which a term is led by a lot: that of the best of the votes below it."""
    best, many = -1, 0
    for house in lot:
        told = picture.votes[house]
        last = max([vote for vote in told if vote < term], default=-1)
        if last >= 0 and (last, told[last]) > (best, many):
            best, many = last, told[last]
    return picture.rows.get(best, ())[:many]


def _behind_lead(picture, action):
    _, term, lot = action
    row = first_row(picture, term, lot)
    rows, firsts = _with(picture.rows, term, row), _with(picture.firsts, term, len(row))
    return made_picture(picture.circle, picture.promised, rows, firsts, picture.votes)


def _behind_append(picture, action):
    _, term, entry = action
    rows = _with(picture.rows, term, picture.rows[term] + (entry,))
    return made_picture(picture.circle, picture.promised, rows, picture.firsts, picture.votes)


def _behind_vote(picture, action):
    _, house, term, many = action
    votes = _with(picture.votes, house, _with(picture.votes[house], term, many))
    return made_picture(picture.circle, _with(picture.promised, house, term), picture.rows, picture.firsts, votes)


ACTION_STEPS = {"promise": _behind_promise, "lead": _behind_lead, "append": _behind_append, "vote": _behind_vote}


def _broken_votes(picture):
    """The first vote that is in no led term, or less than its first length, or above the length of its row."""
    rows, firsts = picture.rows, picture.firsts
    for house, told in picture.votes.items():
        for term, many in told.items():
            if term not in rows or not firsts[term] <= many <= len(rows[term]):
                return "votes", house, term
    return None


def _broken_promises(picture):
    """The first vote above what its house has promised."""
    promised = picture.promised
    for house, told in picture.votes.items():
        for term in told:
            if term > promised[house]:
                return "promises", house, term
    return None


def _broken_firsts(picture):
    """The first led term whose first length is above that of its row."""
    rows = picture.rows
    for term, first in picture.firsts.items():
        if first > len(rows[term]):
            return "firsts", term
    return None


def _broken_lots(picture):
    """The first led term that no more than half of the circle have promised."""
    promised = picture.promised
    for term in picture.rows:
        if not is_enough(picture.circle, len([house for house in promised if promised[house] >= term]), None):
            return "lots", term
    return None


def _broken_chosen(picture):
    """The first pair of led terms of which the later one does not begin with all that is open in the other one."""
    rows, firsts = picture.rows, picture.firsts
    for term, row in rows.items():
        still_open = row[:_open_many(picture, term)]
        for later in [other for other in rows if other > term]:
            if rows[later][:firsts[later]][:len(still_open)] != still_open:
                return "chosen", term, later
    return None


SENTENCES = (_broken_votes, _broken_promises, _broken_firsts, _broken_lots, _broken_chosen)
