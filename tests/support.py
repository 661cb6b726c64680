"""What several tests need: odd values, and the check of the errors of a function."""

import inspect

from halvesmeet import errors
from halvesmeet.disk.blocks import Disk
from halvesmeet.disk.halves import Book
from halvesmeet.house.facts import Facts
from halvesmeet.house.houses import House
from halvesmeet.house.memory import Memory
from halvesmeet.judge.pictures import Picture
from halvesmeet.net.letters import Bag
from halvesmeet.store.states import State
from halvesmeet.world.clients import Client
from halvesmeet.world.worlds import World

THREE = (0, 1, 2)
# the attribute in which an error keeps what it takes
KEEPS = {errors.ParseError: "spot", errors.InvalidNumber: "given", errors.UnknownName: "wanted",
         errors.TooMany: "limit", errors.Refused: "reason"}


def nested(kind, depth):
    """A value of so many brackets of one kind."""
    value = kind()
    for _ in range(depth - 1):
        value = {"a": value} if kind is dict else kind([value])
    return value


def odd_values():
    """Values of all kinds that can be passed as wrong arguments."""
    numbers = [-2, -1, 0, 1, 2, 3, 4, 5, 8, 9, 12, 13, 64, 65, 95, 96, 97, 200, 201, 400, 10 ** 9, 10 ** 9 + 1,
               10 ** 12, 10 ** 59, 10 ** 60 - 1, 10 ** 60, -10 ** 60 + 1, -10 ** 60, 10 ** 100 - 1, -10 ** 99]
    plain = [True, False, None, "", "a", "A", "put", "life", "zzzzzzzz", "aaaaaaaaa", "1", ".", "()", "~\n", " ",
             "a" * 3000, "b" * 3010]
    rows = [(), (0,), (1, 0), (0, 0), (0, 1, 2), (True,), (None,), ("a",), ("get",), ("get", "a"), ("get", "A"),
            ("circle", (0, 1)), ("circle", [0, 1]), (0, 1, ("get", "a")), ((0, 1, ("get", "a")),),
            (0, True, ("get", "a")), (False, 1, ("get", "a")), (((),),), ((None,), None), tuple(range(10)),
            ("state", 0, None), (("state", 0, None),), (("promise", 1),), ((("promise", 1),),),
            (("facts", 0), ("facts", 1)), ("was", None), (1, 0, 0, 1, (("a",),)), ("ask", 0, 1, 2, 4, 0),
            ("begun", 0, 1, 2), ("deed", 0, 1, 1, ("get", "a")), (("ask", 0, 1, 2, 4, 0),), ("ask", 0, 1, 2, 4, True),
            (-1, 0, None, 0, ()), ("take", 0), ("beat", True), ("fall", 0, (1, 0)), (("beat", 0),), ("lead", 0, (0, 1)),
            (("call", 0, 1, ("get", "a")),), (("answer", 0, 1, ("is", None), 0),), ((0,), 1, 6, ()), ((), ()),
            ("order", ()), ("table", (((), ()),))]
    lists = [[], [0, 1], ["get", "a"], [[]], {}, {"a": 1}, {"A": 1}, {0: 1}, {True: 1}, {0: True}, {9: 0}, {1: (-1, 0, None, 0, ())},
             {(): []}, {"a": [True]}]
    deep = [nested(tuple, 12), nested(tuple, 13), nested(tuple, 16), nested(list, 16), nested(dict, 16), ([],), [()]]
    return numbers + plain + rows + lists + deep + own_objects()


def own_objects():
    """An object of each class, and values that have such objects inside."""
    facts = Facts.begun(0, THREE, State.first())
    objects = [State.first(), Disk.empty(3), Disk.empty(194), Book.fresh(), facts, Memory(State.first()), Bag(),
               House.fresh(0), Client(0, THREE), World(THREE, 1), Picture.first(THREE), errors.HouseError("a")]
    return objects + [(State.first(),), {"a": facts}, [Disk.empty(1)]]


def kind_of_error(function, args, keywords=None):
    """The class of the error that a call raises, and what it keeps; None for no error."""
    try:
        outcome = function(*args, **(keywords or {}))
        if inspect.isgenerator(outcome):
            next(outcome)
    except Exception as error:
        kind = type(error)
        return kind, getattr(error, KEEPS[kind]) if kind in KEEPS else None
    return None


class Parameter:
    """A right argument, which values are right ones, and the error for all others."""

    def __init__(self, good, is_right, kind, keyword=None):
        self.good = good
        self.is_right = is_right
        self.kind = kind
        self.keyword = keyword

    def error_for(self, value):
        """What kind_of_error tells for a wrong value."""
        return self.kind, value if self.kind is errors.InvalidNumber else None


def shown(value):
    """A text that tells all that a value has inside, also an object of the package."""
    if hasattr(value, "__dict__"):
        return type(value).__name__ + shown(vars(value))
    if isinstance(value, dict):
        return "{" + ",".join([repr(key) + ":" + shown(worth) for key, worth in value.items()]) + "}"
    if isinstance(value, (tuple, list)):
        return type(value).__name__ + "[" + ",".join([shown(member) for member in value]) + "]"
    return repr(value)


def called(parameters, values):
    """The arguments by position and by keyword."""
    args = [value for parameter, value in zip(parameters, values) if parameter.keyword is None]
    return args, {p.keyword: value for p, value in zip(parameters, values) if p.keyword is not None}


def check_errors(case, function, parameters):
    """Checks the errors of a function: for each odd value in each place, and for two of them at once."""
    good = [parameter.good for parameter in parameters]
    case.assertIsNone(kind_of_error(function, *called(parameters, good)))
    odd = odd_values()
    for at, parameter in enumerate(parameters):
        wrong = [value for value in odd if not parameter.is_right(value)]
        case.assertTrue(wrong)
        for value in wrong:
            check_error(case, function, parameters, good, {at: value}, at)
        for later in range(at + 1, len(parameters)):
            others = [value for value in odd if not parameters[later].is_right(value)]
            for value in wrong[::7]:
                for other in others[::9]:
                    check_error(case, function, parameters, good, {at: value, later: other}, at)


def check_error(case, function, parameters, good, changes, at):
    """Checks that a call with some arguments exchanged raises the error of one of them, and changes nothing."""
    values = [changes.get(index, value) for index, value in enumerate(good)]
    before = shown(values)
    raised = kind_of_error(function, *called(parameters, values))
    case.assertEqual(raised, parameters[at].error_for(values[at]), (function, values))
    if raised[0] is errors.InvalidNumber:
        case.assertIs(raised[1], values[at])
    case.assertEqual(shown(values), before)


def never(_value):
    """Of a parameter whose right values are told otherwise: none of the odd ones is right."""
    return False


def number_from(least, most=10 ** 60 - 1):
    """Which values are integers within bounds."""
    return lambda value: type(value) is int and least <= value <= most


def is_row_of(is_member):
    """Which values are tuples of such members."""
    return lambda value: type(value) is tuple and all(is_member(member) for member in value)


def parts_of_all(values):
    """Each part of some values, as tuples of their indices."""
    many = len(values)
    return [tuple(at for at in range(many) if number >> at & 1) for number in range(2 ** many)]
