import itertools
import random
import unittest

from halvesmeet.base.values import is_circle
from halvesmeet.errors import InvalidCircle, InvalidNumber, InvalidOperation, InvalidPicture
from halvesmeet.judge.pictures import Picture
from halvesmeet.judge.sound import actions_between
from support import Parameter, check_errors, kind_of_error, odd_values, own_objects, shown

THREE = (0, 1, 2)
A, B, C, D = (0, 1, ("put", "a", 1)), (1, 1, ("put", "b", 2)), (0, 2, ("drop", "a")), (1, 2, ("get", "b"))
ENTRIES = (A, B, C)
CIRCLES = ((3,), (0, 4), THREE, (1, 2, 5, 8), (0, 1, 2, 3, 4))
MEMBERS = ("circle", "promised", "rows", "firsts", "votes")


def members(picture):
    return {name: getattr(picture, name) for name in MEMBERS}


def made(picture, **changes):
    """The picture with some members exchanged."""
    return Picture(**{**members(picture), **changes})


def more_than_half(circle, lot):
    return 2 * len(lot) > len(circle)


def lots(circle):
    """All lots of more than half, in Python's order."""
    return sorted(lot for many in range(len(circle) + 1) for lot in itertools.combinations(circle, many) if more_than_half(circle, lot))


def plain_chosen(picture, term):
    """How many entries are chosen, counted lot by lot."""
    return max(many for many in range(len(picture.rows[term]) + 1)
               if many == 0 or any(all(picture.votes[house].get(term, -1) >= many for house in lot) for lot in lots(picture.circle)))


def plain_open(picture, term):
    """How many entries are open, counted lot by lot."""
    can = lambda house, many: picture.votes[house].get(term, -1) >= many or picture.promised[house] <= term
    return max(many for many in range(len(picture.rows[term]) + 1)
               if many == 0 or any(all(can(house, many) for house in lot) for lot in lots(picture.circle)))


def plain_faults(picture):
    """All sentences that are broken, in their sequence."""
    circle, promised, rows, firsts, votes = (getattr(picture, name) for name in MEMBERS)
    for house in circle:
        for term in sorted(votes[house]):
            if term not in rows or votes[house][term] < firsts[term] or votes[house][term] > len(rows[term]):
                yield "votes", house, term
    for house in circle:
        for term in sorted(votes[house]):
            if term > promised[house]:
                yield "promises", house, term
    for term in sorted(rows):
        if firsts[term] > len(rows[term]):
            yield "firsts", term
    for term in sorted(rows):
        if not any(all(promised[house] >= term for house in lot) for lot in lots(circle)):
            yield "lots", term
    for term, later in itertools.combinations(sorted(rows), 2):
        still_open = rows[term][:plain_open(picture, term)]
        if len(still_open) > min(firsts[later], len(rows[later])) or rows[later][:len(still_open)] != still_open:
            yield "chosen", term, later


def plain_first_row(picture, term, lot):
    """The row of the best of the best votes below a term."""
    best = []
    for house in lot:
        below = [(vote, many) for vote, many in picture.votes[house].items() if vote < term]
        best += [max(below)] if below else []
    if not best:
        return ()
    vote, many = max(best)
    return picture.rows.get(vote, ())[:many]


def plain_done(picture, action):
    """A plain account of an action: the picture behind it, None if it is not let."""
    told = members(picture)
    word, one, other = action[0], action[1], action[2]
    if word == "promise":
        if one not in told["circle"] or other <= told["promised"][one]:
            return None
        told["promised"][one] = other
    elif word == "lead":
        if one in told["rows"] or other not in lots(told["circle"]) or any(told["promised"][house] < one for house in other):
            return None
        told["rows"][one] = plain_first_row(picture, one, other)
        told["firsts"][one] = len(told["rows"][one])
    elif word == "append":
        if one not in told["rows"]:
            return None
        told["rows"][one] += (other,)
    else:
        many = action[3]
        if one not in told["circle"] or other not in told["rows"] or told["promised"][one] > other:
            return None
        if not told["firsts"][other] <= many <= len(told["rows"][other]) or many < told["votes"][one].get(other, 0):
            return None
        told["votes"][one][other] = many
        told["promised"][one] = other
    return Picture(**told)


def actions_near(picture):
    """Actions of all forms, on both sides of what is let."""
    terms = sorted({-1, 0, 1, *[term + more for term in [*picture.promised.values(), *picture.rows] for more in (-1, 0, 1)]} - {-1, -2})
    for house in range(9):
        for term in terms:
            yield "promise", house, term
            many = len(picture.rows.get(term, ()))
            for number in sorted({0, 1, many - 1, many, many + 1, picture.firsts.get(term, 0) - 1, picture.firsts.get(term, 0),
                                  *[told.get(term, 0) + more for told in picture.votes.values() for more in (-1, 0)]}):
                if number >= 0:
                    yield "vote", house, term, number
    for term in terms:
        yield "append", term, D
        for many in range(len(picture.circle) + 1):
            for lot in itertools.combinations(picture.circle, many):
                yield "lead", term, lot


def reached(chance, circle, many):
    """A picture that is reached by actions."""
    picture = Picture.first(circle)
    for _ in range(many):
        action = drawn_action(chance, picture)
        if picture.is_let(action):
            picture = picture.done(action)
    return picture


def drawn_action(chance, picture):
    house = chance.choice(picture.circle)
    led = sorted(picture.rows) or [0]
    kind = chance.randrange(8)
    if kind < 2:
        return "promise", house, picture.promised[house] + chance.choice((1, 1, 2))
    if kind < 4:
        return "lead", chance.randrange(8), chance.choice(lots(picture.circle))
    if kind < 5:
        return "append", chance.choice(led), chance.choice(ENTRIES)
    term = chance.choice(led)
    return "vote", house, term, chance.randrange(len(picture.rows.get(term, ())) + 1)


def drawn_picture(chance, circle):
    """Any picture, sound or not."""
    rows = {term: tuple(chance.choice(ENTRIES) for _ in range(chance.randrange(4))) for term in range(5) if chance.randrange(2)}
    firsts = {term: chance.randrange(len(row) + 1 + (chance.randrange(9) == 0)) for term, row in rows.items()}
    votes, promised = {}, {}
    for house in circle:
        votes[house] = {}
        for term in range(5):
            if chance.randrange(3) == 0 and (term in rows or chance.randrange(12) == 0):
                votes[house][term] = chance.randrange(len(rows.get(term, ())) + 1 + (chance.randrange(9) == 0))
        promised[house] = max([-1, *votes[house]]) + chance.choice((0, 0, 1, 2, 3)) - (chance.randrange(12) == 0)
        promised[house] = max(-1, promised[house])
    return Picture(circle, promised, rows, firsts, votes)


def sound_picture(chance, circle):
    """A sound picture that was drawn at once, not reached by actions; None if the drawn one is not sound."""
    row = tuple(chance.choice(ENTRIES) for _ in range(3))
    rows, firsts = {}, {}
    for term in range(5):
        if chance.randrange(2):
            first = chance.randrange(4)
            rows[term] = row[:first] + tuple(chance.choice(ENTRIES) for _ in range(chance.randrange(3)))
            firsts[term] = first
    votes = {house: {term: chance.randint(firsts[term], len(rows[term])) for term in rows if chance.randrange(2)} for house in circle}
    promised = {house: max([-1, *votes[house]]) + chance.randrange(6) for house in circle}
    picture = Picture(circle, promised, rows, firsts, votes)
    return picture if picture.fault() is None else None


def drawn_pictures():
    """Pictures of all kinds."""
    for seed in range(240):
        chance = random.Random(seed)
        yield reached(chance, chance.choice(CIRCLES), chance.randrange(60))
        yield drawn_picture(chance, chance.choice(CIRCLES))
        picture = sound_picture(chance, chance.choice(CIRCLES))
        if picture is not None:
            yield picture


class PictureTest(unittest.TestCase):
    def test_first(self):
        for circle in CIRCLES:
            picture = Picture.first(circle)
            self.assertEqual(members(picture), {"circle": circle, "promised": {house: -1 for house in circle}, "rows": {}, "firsts": {},
                                                "votes": {house: {} for house in circle}})
            self.assertIsNone(picture.fault())
            self.assertEqual(picture.row(), ())

    def test_members_have_ascending_keys(self):
        picture = Picture(THREE, {2: 4, 0: 3, 1: 5}, {3: (A,), 0: ()}, {3: 0, 0: 0}, {1: {3: 1, 0: 0}, 0: {}, 2: {}})
        self.assertEqual([list(picture.promised), list(picture.rows), list(picture.firsts), list(picture.votes), list(picture.votes[1])],
                         [[0, 1, 2], [0, 3], [0, 3], [0, 1, 2], [0, 3]])
        later = picture.done(("vote", 0, 3, 1)).done(("lead", 1, (0, 1, 2))).done(("promise", 0, 4))
        self.assertEqual([list(later.rows), list(later.firsts), list(later.votes[0])], [[0, 1, 3], [0, 1, 3], [3]])

    def test_faults(self):
        told = {}
        for picture in drawn_pictures():
            found = picture.fault()
            faults = list(plain_faults(picture))
            self.assertEqual(found, faults[0] if faults else None, members(picture))
            told[found and found[0]] = told.get(found and found[0], 0) + 1
            if found is not None:
                self.assertEqual(kind_of_error(picture.row, []), (InvalidOperation, None))
        self.assertEqual(set(told), {None, "votes", "promises", "firsts", "lots", "chosen"})
        self.assertGreater(min(told.values()), 3, told)

    def test_each_sentence_alone_and_two_at_once(self):
        sound = Picture(THREE, {0: 4, 1: 3, 2: 4}, {3: (A, B), 4: (A, C)}, {3: 0, 4: 1}, {0: {3: 1, 4: 1}, 1: {3: 1}, 2: {}})
        self.assertIsNone(sound.fault())
        changes = [("votes", {"votes": {0: {3: 1, 4: 0}, 1: {3: 1}, 2: {}}}, ("votes", 0, 4)),
                   ("votes", {"votes": {0: {3: 1}, 1: {3: 3}, 2: {}}}, ("votes", 1, 3)),
                   ("votes", {"votes": {0: {2: 0}, 1: {3: 1}, 2: {}}}, ("votes", 0, 2)),
                   ("promises", {"promised": {0: 4, 1: 2, 2: 4}}, ("promises", 1, 3)),
                   ("firsts", {"firsts": {3: 3, 4: 1}, "votes": {0: {4: 1}, 1: {}, 2: {}}}, ("firsts", 3)),
                   ("lots", {"promised": {0: 4, 1: 3, 2: 3}, "rows": {3: (A,), 4: (A, C)}}, ("lots", 4)),
                   ("chosen", {"rows": {3: (A, B), 4: (C, C)}}, ("chosen", 3, 4)),
                   ("chosen", {"firsts": {3: 0, 4: 0}}, ("chosen", 3, 4))]
        for word, change, fault in changes:
            self.assertEqual(made(sound, **change).fault(), fault)
            self.assertEqual({told[0] for told in plain_faults(made(sound, **change))}, {word})
        for (one, change, fault), (other, more, _) in itertools.combinations(changes, 2):
            if not set(change) & set(more):
                both = made(sound, **change, **more)
                self.assertEqual(both.fault(), list(plain_faults(both))[0])
                # one change can undo what another one breaks
                if {one, other} <= {told[0] for told in plain_faults(both)}:
                    self.assertEqual(both.fault()[0], one)

    def test_the_least_house_and_term(self):
        rows = {1: (A,), 2: (A, B)}
        picture = Picture(THREE, {0: 5, 1: 5, 2: 5}, rows, {1: 1, 2: 1}, {0: {1: 1}, 1: {1: 2, 2: 3}, 2: {0: 0}})
        self.assertEqual(picture.fault(), ("votes", 1, 1))
        picture = Picture(THREE, {0: 5, 1: 0, 2: 0}, rows, {1: 1, 2: 1}, {0: {1: 1}, 1: {1: 1, 2: 1}, 2: {1: 1}})
        self.assertEqual(picture.fault(), ("promises", 1, 1))
        picture = Picture(THREE, {0: 9, 1: 0, 2: 9}, {1: (), 2: (), 3: ()}, {1: 0, 2: 2, 3: 1}, {0: {}, 1: {}, 2: {}})
        self.assertEqual(picture.fault(), ("firsts", 2))
        picture = Picture(THREE, {0: 1, 1: 1, 2: 9}, {1: (), 2: (), 3: ()}, {1: 0, 2: 0, 3: 0}, {0: {}, 1: {}, 2: {}})
        self.assertEqual(picture.fault(), ("lots", 2))
        picture = Picture(THREE, {0: 9, 1: 9, 2: 9}, {1: (A,), 2: (), 3: ()}, {1: 0, 2: 0, 3: 0}, {0: {1: 1}, 1: {1: 1}, 2: {}})
        self.assertEqual(picture.fault(), ("chosen", 1, 2))
        picture = Picture(THREE, {0: 9, 1: 9, 2: 9}, {1: (A,), 2: (A,), 3: ()}, {1: 0, 2: 1, 3: 0}, {0: {1: 1}, 1: {1: 1}, 2: {}})
        self.assertEqual(picture.fault(), ("chosen", 1, 3))

    def test_chosen_and_open(self):
        for picture in drawn_pictures():
            for term in picture.rows:
                self.assertEqual(picture.chosen(term), plain_chosen(picture, term))
                self.assertEqual(picture.choosable(term), plain_open(picture, term))
            if picture.fault() is None:
                chosen = [picture.rows[term][:plain_chosen(picture, term)] for term in picture.rows]
                longest = max(chosen, key=len, default=())
                self.assertEqual(picture.row(), longest)
                for row in chosen:
                    self.assertEqual(longest[:len(row)], row)

    def test_votes_beyond_a_row(self):
        picture = Picture(THREE, {0: 1, 1: 1, 2: 1}, {1: (A,)}, {1: 0}, {0: {1: 5}, 1: {1: 5}, 2: {}})
        self.assertEqual((picture.chosen(1), picture.choosable(1)), (1, 1))

    def test_actions(self):
        many = {}
        for picture in itertools.islice(drawn_pictures(), 0, None, 5):
            is_sound = picture.fault() is None
            before = shown(picture)
            for action in actions_near(picture):
                later = plain_done(picture, action)
                self.assertIs(picture.is_let(action), later is not None, action)
                many[action[0], later is not None] = many.get((action[0], later is not None), 0) + 1
                if later is None:
                    self.assertEqual(kind_of_error(picture.done, [action]), (InvalidOperation, None))
                    continue
                found = picture.done(action)
                self.assertEqual(members(found), members(later))
                if is_sound:
                    self.assertIsNone(found.fault(), action)
            self.assertEqual(shown(picture), before)
        self.assertEqual(len(many), 8)
        self.assertGreater(min(many.values()), 100, many)

    def test_best_votes_of_unsound_pictures(self):
        promised = {0: 9, 1: 9, 2: 9}
        # a vote in the very term is not below it, one in a term that is not led tells nothing, one in the term 0 counts
        for votes, row in (({0: {5: 1}, 1: {}, 2: {}}, ()), ({0: {5: 1, 3: 1}, 1: {}, 2: {}}, (A,)), ({0: {4: 1, 3: 1}, 1: {}, 2: {}}, ()),
                           ({0: {}, 1: {0: 1}, 2: {}}, (B,)), ({0: {3: 1}, 1: {0: 2}, 2: {3: 2}}, (A,)), ({0: {3: 9}, 1: {}, 2: {}}, (A, C))):
            picture = Picture(THREE, promised, {0: (B, C), 3: (A, C)}, {0: 0, 3: 0}, votes)
            self.assertEqual(picture.done(("lead", 5, (0, 1))).rows[5], row)
            self.assertEqual(picture.done(("lead", 5, (0, 1))).firsts[5], len(row))

    def test_sound_pictures_stay_sound(self):
        # also those that were not reached by actions
        many = 0
        for seed in range(400):
            chance = random.Random(seed)
            picture = sound_picture(chance, chance.choice(CIRCLES))
            for _ in range(25 if picture is not None else 0):
                action = drawn_action(chance, picture)
                if picture.is_let(action):
                    row, picture = picture.row(), picture.done(action)
                    many += 1
                    self.assertIsNone(picture.fault(), (members(picture), action))
                    self.assertEqual(picture.row()[:len(row)], row)
        self.assertGreater(many, 500)

    def test_what_is_no_action(self):
        picture = Picture(THREE, {0: 4, 1: 3, 2: 4}, {3: (A, B)}, {3: 0}, {0: {3: 1}, 1: {3: 1}, 2: {}})
        for action in (("promise", 1, 4), ("lead", 4, (0, 2)), ("append", 3, C), ("vote", 1, 3, 2)):
            self.assertIs(picture.is_let(action), True)
            for at in range(len(action)):
                for other in (None, True, False, "a", "", [], (), {}, -1, 10 ** 60, (True,), [0, 2], (0, 2, 2), (2, 0), (0, 3), (0,), A[:2], list(A)):
                    wrong = action[:at] + (other,) + action[at + 1:]
                    self.assertIs(picture.is_let(wrong), False, wrong)
                self.assertIs(picture.is_let(action[:at] + action[at + 1:]), False)
            self.assertIs(picture.is_let(action + (0,)), False)
            self.assertIs(picture.is_let(list(action)), False)
        for value in odd_values() + own_objects():
            self.assertIs(picture.is_let(value), value == ("lead", 0, (0, 1)), value)

    def test_errors(self):
        votes = {0: {3: 1}, 1: {}, 2: {}}
        right = [THREE, {0: 4, 1: -1, 2: 3}, {3: (A,)}, {3: 1}, votes]
        never = lambda value: False
        is_right = lambda at: lambda value: kind_of_error(Picture, right[:at] + [value] + right[at + 1:]) is None
        parameters = [Parameter(right[0], is_circle, InvalidCircle)]
        parameters += [Parameter(right[at], never, InvalidPicture) for at in range(1, 5)]
        check_errors(self, Picture, parameters)
        self.assertTrue(is_right(0)(THREE))
        check_errors(self, Picture.first, [Parameter(THREE, is_circle, InvalidCircle)])
        wrong = [(1, {0: 4, 1: 3}), (1, {0: 4, 1: 3, 2: 3, 3: 3}), (1, {0: 4, 1: -2, 2: 3}), (1, {0: 4, 1: True, 2: 3}), (1, {0: 4, True: 3, 2: 3}),
                 (1, {0: 4, 1: 10 ** 60, 2: 3}), (2, {3: [A]}), (2, {3: (A[:2],)}), (2, {-1: ()}), (2, {}), (2, {3: (A,), 4: ()}), (2, {True: ()}),
                 (3, {3: -1}), (3, {3: True}), (3, {4: 1}), (3, {3: 1, 4: 1}), (3, {}), (3, {3: None}), (4, {0: {}, 1: {}}), (4, {0: {}, 1: {}, 2: {}, 3: {}}),
                 (4, {0: {}, 1: {}, 2: ()}), (4, {0: {-1: 0}, 1: {}, 2: {}}), (4, {0: {3: -1}, 1: {}, 2: {}}), (4, {0: {3: True}, 1: {}, 2: {}}),
                 (4, {0: {True: 1}, 1: {}, 2: {}}), (4, {0: {3: 10 ** 60}, 1: {}, 2: {}})]
        for at, value in wrong:
            self.assertEqual(kind_of_error(Picture, right[:at] + [value] + right[at + 1:]), (InvalidPicture, None), (at, value))
        # the circle is looked at first
        self.assertEqual(kind_of_error(Picture, [(), 5, 5, 5, 5]), (InvalidCircle, None))
        # unsound members are right ones
        self.assertIsNone(kind_of_error(Picture, [THREE, {0: -1, 1: -1, 2: -1}, {10 ** 60 - 1: ()}, {10 ** 60 - 1: 9}, {0: {7: 7}, 1: {}, 2: {}}]))

    def test_errors_of_terms(self):
        picture = Picture(THREE, {0: 4, 1: 3, 2: 4}, {3: (A, B), 1: ()}, {3: 0, 1: 0}, {0: {3: 1}, 1: {3: 1}, 2: {}})
        for method in (picture.chosen, picture.choosable):
            check_errors(self, method, [Parameter(3, lambda value: type(value) is int and value in (1, 3), InvalidNumber)])
            for term in (0, 2, 4, True, -1):
                self.assertEqual(kind_of_error(method, [term]), (InvalidNumber, term))
        check_errors(self, picture.done, [Parameter(("append", 3, A), picture.is_let, InvalidOperation)])

    def test_equal_ones(self):
        for picture in itertools.islice(drawn_pictures(), 0, None, 20):
            self.assertEqual(picture, Picture(**members(picture)))
            others = [later for later in map(lambda action: plain_done(picture, action), actions_near(picture)) if later is not None]
            for other in others:
                self.assertEqual(picture == other, members(picture) == members(other))
        for value in odd_values() + own_objects()[:-4]:
            if not isinstance(value, Picture):
                self.assertFalse(Picture.first(THREE) == value)
                self.assertTrue(Picture.first(THREE) != value)

    def test_not_true(self):
        # votes that neither begin the chosen row nor are begun by it
        picture = Picture(THREE, {0: 4, 1: 5, 2: 5}, {4: (A,), 5: (B,)}, {4: 0, 5: 0}, {0: {4: 1}, 1: {5: 1}, 2: {5: 1}})
        self.assertIsNone(picture.fault())
        self.assertEqual(picture.row(), (B,))
        # what is chosen never parts, but a vote that can still come will part it
        picture = Picture(THREE, {0: 4, 1: 4, 2: 5}, {4: (A,), 5: (B,)}, {4: 0, 5: 0}, {0: {4: 1}, 1: {}, 2: {}})
        self.assertEqual([picture.chosen(4), picture.chosen(5)], [0, 0])
        self.assertNotEqual(picture.fault(), None)


class BetweenTest(unittest.TestCase):
    def test_single_actions(self):
        for picture in itertools.islice(drawn_pictures(), 1, None, 9):
            for action in actions_near(picture):
                if picture.is_let(action):
                    later = picture.done(action)
                    found = actions_between(picture, later)
                    self.assertIsNotNone(found, action)
                    self.check(picture, later, found)
                    # a lead can be told by a lesser lot; a vote again with as many entries is a promise, or nothing
                    if action[0] in ("promise", "append"):
                        self.assertEqual(found, (action,))

    def check(self, one, other, actions):
        for action in actions:
            self.assertTrue(one.is_let(action))
            if action[0] == "lead":
                told = [lot for lot in lots(one.circle) if one.is_let(("lead", action[1], lot))
                        and plain_first_row(one, action[1], lot) == other.rows[action[1]][:other.firsts[action[1]]]]
                self.assertEqual(action[2], told[0])
            one = one.done(action)
        self.assertEqual(one, other)

    def test_rows_of_actions(self):
        # leads and appends by terms, then votes and a promise by houses: any such row is found again
        many = 0
        for seed in range(120):
            chance = random.Random(seed)
            picture = reached(chance, chance.choice(CIRCLES), 30)
            later = picture
            for term in range(12):
                lot = chance.choice(lots(later.circle))
                if chance.randrange(2) and later.is_let(("lead", term, lot)):
                    later = later.done(("lead", term, lot))
                for _ in range(chance.randrange(3) if term in later.rows else 0):
                    later = later.done(("append", term, chance.choice(ENTRIES)))
            for house in later.circle:
                for term, row in later.rows.items():
                    action = ("vote", house, term, chance.randint(0, len(row)))
                    if chance.randrange(3) and later.is_let(action):
                        later = later.done(action)
                if chance.randrange(2):
                    later = later.done(("promise", house, later.promised[house] + 2))
            found = actions_between(picture, later)
            self.assertIsNotNone(found)
            self.check(picture, later, found)
            many += len(found)
            words = [("lead", "append", "vote", "promise").index(action[0]) // 2 for action in found]
            self.assertEqual(words, sorted(words))
        self.assertGreater(many, 300)

    def test_none(self):
        one = Picture(THREE, {0: 4, 1: 3, 2: 4}, {3: (A, B), 4: (A, C)}, {3: 0, 4: 1}, {0: {3: 1, 4: 1}, 1: {3: 1}, 2: {}})
        self.assertEqual(actions_between(one, one), ())
        others = [{"promised": {0: 3, 1: 3, 2: 4}}, {"rows": {3: (A,), 4: (A, C)}}, {"rows": {3: (B, A), 4: (A, C)}}, {"firsts": {3: 1, 4: 1}},
                  {"rows": {3: (A, B)}, "firsts": {3: 0}}, {"votes": {0: {3: 0, 4: 1}, 1: {3: 1}, 2: {}}}, {"votes": {0: {3: 1}, 1: {3: 1}, 2: {}}},
                  {"votes": {0: {3: 1, 4: 1}, 1: {3: 3}, 2: {}}}, {"votes": {0: {3: 1, 4: 1}, 1: {3: 1}, 2: {3: 1}}},
                  {"rows": {3: (A, B), 4: (A, C), 5: ()}, "firsts": {3: 0, 4: 1, 5: 0}}]
        for changes in others:
            self.assertIsNone(actions_between(one, made(one, **changes)), changes)
        # a term can be led only behind its promises, not by those that come in the same row of actions
        later = made(one, promised={0: 5, 1: 5, 2: 4}, rows={3: (A, B), 4: (A, C), 5: (A,)}, firsts={3: 0, 4: 1, 5: 1})
        self.assertIsNone(actions_between(one, later))
        promised = made(one, promised={0: 5, 1: 5, 2: 4})
        self.assertEqual(actions_between(one, promised), (("promise", 0, 5), ("promise", 1, 5)))
        self.assertEqual(actions_between(promised, later), (("lead", 5, (0, 1)),))
        # with another first row no lot tells it
        self.assertIsNone(actions_between(promised, made(later, rows={3: (A, B), 4: (A, C), 5: (B,)})))
        # back from it
        self.assertIsNone(actions_between(promised, one))

    def test_the_least_lot(self):
        one = Picture((0, 1, 2, 3), {house: 9 for house in range(4)}, {4: (A,)}, {4: 0}, {0: {}, 1: {}, 2: {}, 3: {4: 1}})
        led = one.done(("lead", 7, (1, 2, 3)))
        self.assertEqual(actions_between(one, led), (("lead", 7, (0, 1, 2, 3)),))
        self.assertEqual(actions_between(one, one.done(("lead", 7, (0, 1, 2)))), (("lead", 7, (0, 1, 2)),))

    def test_errors(self):
        is_picture = lambda value: isinstance(value, Picture)
        picture = Parameter(Picture.first(THREE), is_picture, InvalidPicture)
        check_errors(self, actions_between, [picture, picture])
        self.assertEqual(kind_of_error(actions_between, [Picture.first(THREE), Picture.first((0, 1))]), (InvalidOperation, None))
        self.assertEqual(kind_of_error(actions_between, [Picture.first(THREE), 5]), (InvalidPicture, None))


if __name__ == "__main__":
    unittest.main()
