import unittest

from halvesmeet.errors import InvalidFacts, InvalidHouse, InvalidState
from halvesmeet.house.facts import Facts
from halvesmeet.house.memory import RULES, Memory
from halvesmeet.store.states import State
from support import THREE, Parameter, check_errors, kind_of_error, odd_values
from test_facts import STOPPED, entries_from

FIRST = State.first()
TWO = FIRST.run(entries_from(2))
GRANT = (3, 0, None, 4, entries_from(2))
BASED = (-1, 2, TWO.parts(), 2, ())
READ = (0, 1, ("get", "a"), 0)
DEFAULTS = {
    "role": "hears", "leader": None, "floor": -1, "term": -1, "counter": 0, "opening": 0, "round": 0, "grants": {}, "laid": {},
    "at": {}, "heard": {}, "reads": (), "joined": ()}
HUGE = 10 ** 60
COUNTS = ((0, 1, 10 ** 9 + 1, HUGE - 1), (-1, -2, True, False, None, "0", (), HUGE))
TERMS = ((-1, 0, 7, HUGE - 1), (-2, True, None, "a", (1,), HUGE, -HUGE))
DICTS = (({}, {0: 0}, {8: HUGE - 1, 3: 10 ** 9 + 1}),
         ({0: -1}, {0: True}, {0: None}, {0: HUGE}, {9: 0}, {-1: 0}, {True: 0}, {"a": 0}, {None: 0}, {(0,): 0}, (), None, 0, ((0, 0),), [(0, 0)]))
GRANTS = (({}, {0: GRANT}, {8: BASED, 2: GRANT}, {4: (-1, 0, None, 0, ())}, {4: (10 ** 9, 10 ** 9, None, 10 ** 9, entries_from(64))}),
          ({0: 0}, {9: GRANT}, {True: GRANT}, {0: GRANT[1:]}, {0: GRANT + (0,)}, {0: (4,) + GRANT}, {0: list(GRANT)}, {0: None},
           {0: (-2, 0, None, 0, ())}, {0: (True, 0, None, 0, ())}, {0: (0, -1, None, 0, ())}, {0: (0, 0, None, -1, ())},
           {0: (10 ** 9 + 1, 0, None, 0, ())}, {0: (0, 10 ** 9 + 1, None, 0, ())}, {0: (0, 0, None, 10 ** 9 + 1, ())},
           {0: (0, 0, TWO.parts(), 3, ())}, {0: (0, 0, TWO, 2, ())}, {0: (0, 0, STOPPED.parts(), 3, ())}, {0: (0, 0, (), 0, ())},
           {0: (0, 0, None, 0, entries_from(65))}, {0: (0, 0, None, 0, [])}, {0: (0, 0, None, 0, (5,))}, (), None, [GRANT], (GRANT,)))
READS = (((), (READ,), (READ, READ, (4, HUGE - 1, ("list", "a", "c"), HUGE - 1), (1, 1, ("put", "a", 1), 5))),
         ((READ[:3],), (READ + (0,),), READ, [READ], (5,), ((5,) + READ[1:],), ((0, 0) + READ[2:],), ((0, True) + READ[2:],),
          ((True,) + READ[1:],), (READ[:2] + (("get",), 0),), (READ[:3] + (-1,),), (READ[:3] + (True,),), (READ[:3] + (None,),),
          (list(READ),), {}, None, 0))
FIELDS = {
    "role": (("rests", "hears", "asks", "leads", "over"), ("", "rest", "Hears", None, 0, ("hears",), ["hears"], True)),
    "leader": ((None,) + tuple(range(9)), (-1, 9, True, False, "0", (0,), HUGE)),
    "floor": TERMS, "term": TERMS, "counter": COUNTS, "opening": COUNTS, "round": COUNTS, "grants": GRANTS, "laid": DICTS,
    "at": DICTS, "heard": DICTS, "reads": READS,
    "joined": (((), (0,), (2, 5, 8), tuple(range(9))), ((1, 0), (0, 0), (9,), (-1,), (True,), (None,), [0], 0, None, "0", {}))}
SOME = {"role": "leads", "leader": 1, "floor": 9, "term": 7, "counter": 3, "opening": 2, "round": 5, "grants": {2: GRANT, 0: BASED},
        "laid": {1: 3, 0: 2}, "at": {2: 0}, "heard": {1: 5}, "reads": (READ,), "joined": (0, 2)}


def fields_of(memory):
    return {name: getattr(memory, name) for name in DEFAULTS}


def is_fields(value, names=DEFAULTS):
    """Which of the odd values are fields: by chance just the empty dict is one."""
    return value is None or value == {}


class MemoryTest(unittest.TestCase):
    def test_rules(self):
        self.assertEqual(RULES, ("sync", "life", "promise", "best", "whole", "half", "term", "round", "carry"))

    def test_what_nothing_is_told_of(self):
        for memory in (Memory(TWO), Memory(TWO, None), Memory(TWO, {})):
            self.assertEqual((memory.state, memory.decided, fields_of(memory)), (TWO, 2, DEFAULTS))

    def test_each_field(self):
        for name, (right, wrong) in FIELDS.items():
            for told in right:
                memory = Memory(TWO, {name: told})
                self.assertEqual(fields_of(memory), {**DEFAULTS, name: told})
                self.assertEqual(fields_of(Memory(FIRST, SOME).but({name: told})), {**SOME, name: told})
            for told in wrong:
                for fields in ({name: told}, {**SOME, name: told}):
                    self.assertEqual(kind_of_error(Memory, [TWO, fields]), (InvalidHouse, None), fields)
                    self.assertEqual(kind_of_error(Memory(TWO).but, [fields]), (InvalidHouse, None), fields)
                    self.assertEqual(kind_of_error(Memory, [5, fields]), (InvalidState, None))

    def test_fields_that_lack_one(self):
        for name in SOME:
            fields = {other: told for other, told in SOME.items() if other != name}
            self.assertEqual(fields_of(Memory(TWO, fields)), {**SOME, name: DEFAULTS[name]})

    def test_exchanged_names(self):
        kinds = {"grants": "dict", "laid": "counts", "at": "counts", "heard": "counts", "floor": "term", "term": "term"}
        kinds.update({name: "count" for name in ("counter", "opening", "round")})
        for name, told in SOME.items():
            for other in SOME:
                right = name == other or kinds.get(name, name) == kinds.get(other, other)
                # numbers are right in several places, each by its own bounds
                right = right or (isinstance(told, int) and other in ("leader", "floor", "term", "counter", "opening", "round")
                                  and (other != "leader" or told <= 8))
                self.assertEqual(kind_of_error(Memory, [TWO, {other: told}]), None if right else (InvalidHouse, None), (name, other))

    def test_names_that_are_none(self):
        for name in ("state", "decided", "", "Role", "rôle", "beats", None, 0, True, ("role",), b"role"):
            self.assertEqual(kind_of_error(Memory, [TWO, {name: 0}]), (InvalidHouse, None))
            if name != "state":
                self.assertEqual(kind_of_error(Memory(TWO).but, [{name: 0}]), (InvalidHouse, None))
                self.assertEqual(kind_of_error(Memory(TWO).but, [{name: 0, "state": FIRST}]), (InvalidHouse, None))

    def test_dicts_are_copies_with_ascending_keys(self):
        told = {"laid": {5: 1, 0: 2, 3: 4}, "grants": {4: GRANT, 1: BASED}}
        memory = Memory(TWO, told)
        self.assertEqual((list(memory.laid), list(memory.grants)), ([0, 3, 5], [1, 4]))
        self.assertEqual([list(told["laid"]), list(told["grants"]), list(told)], [[5, 0, 3], [4, 1], ["laid", "grants"]])
        self.assertEqual(list(memory.but({"at": {8: 0, 1: 1}}).at), [1, 8])
        for name in ("laid", "grants", "at", "heard"):
            told.setdefault(name, {})[7] = 9 if name != "grants" else GRANT
            getattr(memory, name)[6] = 0
        self.assertEqual((memory.laid, memory.grants, memory.at, memory.heard), ({0: 2, 3: 4, 5: 1}, {1: BASED, 4: GRANT}, {}, {}))

    def test_but(self):
        memory = Memory(TWO, SOME)
        self.assertEqual([memory.but({}) == memory, memory.but(None) == memory], [True, True])
        later = memory.but({"state": FIRST, "role": "over", "joined": (1,)})
        self.assertEqual((later.state, later.decided, fields_of(later)), (FIRST, 0, {**SOME, "role": "over", "joined": (1,)}))
        self.assertEqual((memory.state, fields_of(memory)), (TWO, SOME))
        self.assertEqual(memory.but({"state": FIRST}).but({"state": TWO}), memory)
        for state in (None, 5, FIRST.parts(), ()):
            for rest in ({}, {"role": "x"}, {"beats": 0}):
                self.assertEqual(kind_of_error(memory.but, [{**rest, "state": state}]), (InvalidState, None))
                self.assertEqual(kind_of_error(Memory, [state, rest]), (InvalidState, None))

    def test_risen(self):
        self.assertEqual(Memory.risen(None), Memory(FIRST, {"role": "rests"}))
        self.assertEqual(Memory.risen(Facts.begun(0, THREE, FIRST)), Memory(FIRST))
        facts = Facts(3, THREE, 9, 4, TWO, entries_from(2, 2))
        self.assertEqual(Memory.risen(facts), Memory(TWO, {"role": "hears", "floor": 9}))
        over = Facts(3, THREE, 9, 4, STOPPED, ())
        self.assertEqual(Memory.risen(over), Memory(STOPPED, {"role": "over", "floor": 9}))
        self.assertEqual(Memory.risen(Facts(3, THREE, 9, 4, STOPPED.reopened(), ())).role, "hears")
        # a stop that stands in the row alone is not known to be decided
        stop = Facts(3, THREE, 9, 4, FIRST, entries_from(2) + ((0, 99, ("circle", (0, 1))),))
        self.assertEqual(Memory.risen(stop), Memory(FIRST, {"floor": 9}))

    def test_equality(self):
        memories = [Memory(TWO), Memory(FIRST)] + [Memory(TWO, {name: told}) for name, told in SOME.items()] + [Memory(TWO, SOME)]
        for i, one in enumerate(memories):
            for j, other in enumerate(memories):
                self.assertEqual([one == other, one != other], [i == j, i != j])
        for value in odd_values():
            if not isinstance(value, Memory):
                self.assertEqual([memories[1] == value, memories[1] != value], [False, True])
        self.assertEqual(Memory(TWO, {"laid": {1: 2, 0: 3}}), Memory(TWO, {"laid": {0: 3, 1: 2}}))
        self.assertRaises(TypeError, iter, memories[0])

    def test_errors(self):
        states = Parameter(FIRST, lambda value: isinstance(value, State), InvalidState)
        fields = Parameter({}, is_fields, InvalidHouse)
        check_errors(self, Memory, [states, fields])
        check_errors(self, Memory(TWO).but, [fields])
        check_errors(self, Memory.risen, [Parameter(None, lambda value: value is None or isinstance(value, Facts), InvalidFacts)])


if __name__ == "__main__":
    unittest.main()
