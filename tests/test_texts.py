import ast
import random
import unittest

from drawing import Drawn, drawn_world
from halvesmeet.base.values import write_plain
from halvesmeet.errors import InvalidHistory, InvalidOperation, InvalidWorld, ParseError, Refused
from halvesmeet.house.memory import RULES
from halvesmeet.judge.guards import broken_run, world_of_run
from halvesmeet.judge.orders import is_history, is_order, order_paper
from halvesmeet.text.texts import is_world_text, read_history, read_world, tight, write_history, write_world
from halvesmeet.world.calm import calm
from halvesmeet.world.worlds import World, is_event, is_one_row
from support import Parameter, check_errors, kind_of_error, nested, odd_values, own_objects, shown
from test_clients import drawn_history

THREE = (0, 1, 2)
HEAD = "world (0,1,2) clients 2 fold 6 without .\n"
RUN = World(THREE, 2).run((("call", 0, ("put", "a", 5)), ("beat", 1)))
WORLD = Parameter(RUN, lambda value: isinstance(value, World), InvalidWorld)


def plain_read(lines):
    """The index of the first wrong line of a text with a right first line, None if there is none; lines end with newlines."""
    world = read_world(HEAD)
    for index, line in enumerate(lines, 1):
        event = plain_value(line)
        if event is None or not world.can_be(event) or index > 3000:
            return index
        world = world.done(event)
    return None


def plain_value(line):
    """The event with a text, None if there is none: by Python's own reading, compared with what would be written."""
    try:
        value = ast.literal_eval(line.replace(".", "None"))
    except (ValueError, SyntaxError):
        return None
    return value if is_event(value) and write_plain(value) == line else None


def lines_near(chance, lines):
    """Rows of lines with one left out, doubled, exchanged, put in, or altered."""
    for at in sorted(chance.sample(range(len(lines)), min(12, len(lines)))):
        line = lines[at]
        yield lines[:at] + lines[at + 1:]
        yield lines[:at] + [line] + lines[at:]
        yield lines[:at] + lines[at:at + 2][::-1] + lines[at + 2:]
        yield lines[:at] + ["('rise',8)"] + lines[at:]
        for other in (line + " ", " " + line, line[:-1], line + ")", line.replace(",", ", ", 1), line.replace("'", '"'), "", line.upper(),
                      line.replace("(", "[", 1), line + line, line.replace(",0", ",00"), line.replace(",1", ",+1"), line.replace("'", "", 1), "\t" + line):
            yield lines[:at] + [other] + lines[at + 1:]


class WorldTest(unittest.TestCase):
    def test_drawn_worlds(self):
        for rule in (None,) + RULES:
            for seed in range(4):
                world = drawn_world(seed, 150, without=rule)
                text = write_world(world)
                self.assertEqual(len(text.split("\n")), 152)
                self.assertEqual(text.split("\n")[0].split(" ")[7], "." if rule is None else rule)
                later = read_world(text)
                self.assertEqual(later, world)
                self.assertEqual(later.events, world.events)
                self.assertEqual(shown(later), shown(world))
                self.assertEqual(write_world(later), text)
                self.assertIs(is_world_text(text), True)

    def test_heads(self):
        for circle in ((8,), (0, 4), THREE, tuple(range(1, 8))):
            for clients in (1, 5):
                for fold in (1, 12):
                    for rule in (None, "sync", "carry"):
                        world = World(circle, clients, fold=fold, without=rule)
                        head = f"world ({','.join(map(str, circle))}) clients {clients} fold {fold} without {rule or '.'}\n"
                        self.assertEqual(write_world(world), head)
                        self.assertEqual(read_world(head), world)

    def test_wrong_heads(self):
        words = HEAD[:-1].split(" ")
        wrong = []
        for at in range(8):
            wrong += [words[:at] + words[at + 1:], words[:at] + [words[at]] + words[at:], words[:at] + words[at:at + 2][::-1] + words[at + 2:]]
            wrong += [words[:at] + [other] + words[at + 1:] for other in ("", "World", "01", "-1", "'1'", "None", "()", "(0,1,2,3,4,5,6,7)", "(1,0)", "(0, 1)", "(9)",
                                                                          "(True)", "[0]", "(0,1", "halves", "SYNC", "..", "13", "(00)")]
        wrong += [words[:3] + [other] + words[4:] for other in ("0", "6", "1.0", "+1", "05", ".")]
        wrong += [words[:5] + [other] + words[6:] for other in ("0", "13", "012")]
        wrong += [words[:1] + [other] + words[2:] for other in ("0", ".", "('a b')", "(0,0)", "(0,9)", "((0))")]
        wrong += [[""], [" "] + words, words + [""], words[:4] + [""] + words[4:]]
        for row in wrong:
            line = " ".join(row)
            if line != HEAD[:-1]:
                self.assertEqual(kind_of_error(read_world, [line + "\n"]), (ParseError, 0), line)
                self.assertEqual(kind_of_error(read_world, [line + "\n('odd')"]), (ParseError, 0), line)
                self.assertIs(is_world_text(line + "\n"), False)

    def test_ends(self):
        for text, told in (("", 0), ("\n", 0), (HEAD[:-1], 0), (HEAD, None), (HEAD + "\n", 1), (HEAD + "('beat',0)", 1), (HEAD + "('beat',0)\n", None),
                           (HEAD + "('beat',0)\n\n", 2), (HEAD + "\n('beat',0)\n", 1), ("\n" + HEAD, 0), (HEAD + "('beat',0)\n ", 2),
                           (HEAD + "('beat',9)\nodd", 1), (HEAD + "('beat',0)\n('beat',0)", 2), (HEAD + "('rise',0)\n", 1), (HEAD + "('beat',0)\r\n", 1)):
            self.assertEqual(kind_of_error(read_world, [text]), None if told is None else (ParseError, told), text)
            self.assertIs(is_world_text(text), told is None)

    def test_wrong_lines(self):
        told = {True: 0, False: 0}
        for seed in range(10):
            chance = random.Random(seed)
            lines = write_world(Drawn(seed, circle=THREE, clients=2, fold=6).run(60)).split("\n")[1:-1]
            for other in lines_near(chance, lines):
                wrong = plain_read(other)
                told[wrong is None] += 1
                text = HEAD + "".join(line + "\n" for line in other)
                self.assertEqual(kind_of_error(read_world, [text]), None if wrong is None else (ParseError, wrong))
                self.assertIs(is_world_text(text), wrong is None)
        self.assertGreater(min(told.values()), 20)

    def test_many_events(self):
        line = "('beat',8)\n"
        self.assertEqual(len(read_world(HEAD + line * 3000)), 3000)
        self.assertEqual(kind_of_error(read_world, [HEAD + line * 3001]), (ParseError, 3001))
        self.assertEqual(kind_of_error(read_world, [HEAD + line * 3002]), (ParseError, 3001))
        self.assertEqual(kind_of_error(read_world, [HEAD + line * 2999 + "('take',0)\n" + line * 5]), (ParseError, 3000))

    def test_long_texts(self):
        for many, told in ((900000, 1), (900001, None), (900002, None)):
            text = HEAD + "x" * (many - len(HEAD))
            self.assertEqual(kind_of_error(read_world, [text]), (ParseError, told))
            self.assertEqual(kind_of_error(read_history, [text]), (ParseError, None if told is None else 0))
            self.assertIs(is_world_text(text), False)

    def test_unlike_worlds(self):
        texts = {}
        for world in (World(THREE, 1), World(THREE, 2), World((0, 1), 1), World(THREE, 1, fold=5), World(THREE, 1, without="half"),
                      World(THREE, 1).done(("beat", 0)), World(THREE, 1).done(("beat", 1)), World(THREE, 1).run((("beat", 0), ("beat", 0)))):
            texts[write_world(world)] = True
        self.assertEqual(len(texts), 8)

    def test_errors(self):
        check_errors(self, write_world, [WORLD])
        for value in odd_values() + own_objects():
            told = (ParseError, 0 if isinstance(value, str) else None)
            self.assertEqual(kind_of_error(read_world, [value]), told)
            self.assertIs(is_world_text(value), False)

    def test_a_cut_world_goes_on(self):
        for seed in range(8):
            drawn = Drawn(seed, clients=2)
            first = drawn.world
            last = drawn.run(200)
            for at in (0, 50, 120, 200):
                again = read_world(write_world(first.run(last.events[:at])))
                self.assertEqual(again.run(last.events[at:]), last)
            if any(client.open_call for client in last.clients):
                lot = tuple(range(9))
                self.assertEqual(calm(read_world(write_world(last)), lot), calm(last, lot))

    def test_not_true(self):
        # equal worlds with unlike texts
        world = World(THREE, 1).done(("call", 0, ("get", "a")))
        other = world.run((("double", 0), ("lose", 1)))
        self.assertEqual(world, other)
        self.assertNotEqual(write_world(world), write_world(other))
        # a line taken out of a text
        lines = write_world(world.done(("take", 0))).split("\n")
        self.assertIs(is_world_text("\n".join(lines)), True)
        self.assertIs(is_world_text("\n".join(lines[:1] + lines[2:])), False)


class HistoryTest(unittest.TestCase):
    def test_drawn_histories(self):
        for seed in range(40):
            chance = random.Random(seed)
            history = drawn_history(chance, chance.randrange(20))
            text = write_history(history)
            self.assertEqual(text.count("\n"), len(history))
            self.assertEqual(read_history(text), history)
            self.assertEqual(write_history(read_history(text)), text)
        for seed in range(6):
            history = drawn_world(seed, 200).history
            self.assertEqual(read_history(write_history(history)), history)
        self.assertEqual((write_history(()), read_history("")), ("", ()))

    def test_wrong_lines(self):
        lines = ["('call',0,1,('put','a',5))", "('answer',0,1,('was',.),1)", "('call',0,2,('get','a'))"]
        text = "".join(line + "\n" for line in lines)
        self.assertEqual(len(read_history(text)), 3)
        for at in range(3):
            line = lines[at]
            for other in (line + " ", " " + line, "", line[:-1], line[1:], line + ")", line.replace("0", "5", 1), line.replace("0", "00", 1), line.replace("call", "calls"),
                          line.replace("answer", "answers"), line.replace("'a'", "'A'"), "('beat',0)", "5", ".", "()", line.replace(",1", ",0", 1), line.replace(",2", ",0", 1)):
                if other != line:
                    near = lines[:at] + [other] + lines[at + 1:]
                    self.assertEqual(kind_of_error(read_history, ["".join(row + "\n" for row in near)]), (ParseError, at), near)
        for end, told in (("\n", 3), (" ", 3), ("x", 3), ("('call',0,3,('get','a'))", 3)):
            self.assertEqual(kind_of_error(read_history, [text + end]), (ParseError, told))
        self.assertEqual(kind_of_error(read_history, [text[:-1]]), (ParseError, 2))
        self.assertEqual(kind_of_error(read_history, ["\n"]), (ParseError, 0))
        # members that are no history together
        for near in (lines[1:], lines[:1] * 2, lines[::-1], lines[:2] + lines[1:], lines[2:]):
            self.assertEqual(kind_of_error(read_history, ["".join(row + "\n" for row in near)]), (InvalidHistory, None))
        # a wrong line comes first
        self.assertEqual(kind_of_error(read_history, [lines[1] + "\n" + "x\n"]), (ParseError, 1))
        self.assertEqual(kind_of_error(read_history, [lines[1] + "\n" + "x"]), (ParseError, 1))

    def test_bounds(self):
        deep = "('answer',0,1," + "(" * 10 + ")" * 10 + ",0)\n"
        self.assertEqual(read_history("('call',0,1,('get','a'))\n" + deep)[1][3], nested(tuple, 10))
        self.assertEqual(kind_of_error(read_history, ["('call',0,1,('get','a'))\n" + deep.replace("()", "(())")]), (ParseError, 1))
        rows = "".join(f"('call',0,{number},('get','a'))\n" for number in range(1, 3001))
        self.assertEqual(len(read_history(rows)), 3000)
        self.assertEqual(kind_of_error(read_history, [rows + "('call',0,3001,('get','a'))\n"]), (InvalidHistory, None))

    def test_errors(self):
        is_right = lambda value: type(value) is tuple and is_history(value)
        check_errors(self, write_history, [Parameter(RUN.history, is_right, InvalidHistory)])
        for value in odd_values() + own_objects():
            told = (ParseError, 0 if isinstance(value, str) else None)
            self.assertEqual(kind_of_error(read_history, [value]), None if value == "" and isinstance(value, str) else told)

    def test_one_answer_changed(self):
        for seed in range(6):
            world = drawn_world(seed, 300)
            paper = order_paper(world)
            for at, row in enumerate(world.history):
                if row[0] == "answer":
                    other = world.history[:at] + (row[:3] + (("full",),) + row[4:],) + world.history[at + 1:]
                    again = read_history(write_history(other))
                    self.assertIs(is_order(again, paper), False)
            self.assertIs(is_order(read_history(write_history(world.history)), paper), True)


class Broken(Exception):
    """An error of a statement."""


class TightTest(unittest.TestCase):
    def is_tight(self, world, events, does_break):
        """Whether a run can be done and breaks, and no single event can be left out; counted plainly."""
        begin = World(world.circle, len(world.clients), fold=world.fold, without=world.without)
        if does_break(begin.run(events)) is not True:
            return False
        for at in range(len(events)):
            later = begin
            for event in events[:at] + events[at + 1:]:
                if later is not None:
                    later = later.done(event) if later.can_be(event) else None
            if later is not None and does_break(later) is True:
                return False
        return True

    def test_drawn_runs(self):
        statements = (lambda world: len(world.history) > 1, lambda world: any(house is None for house in world.houses.values()),
                      lambda world: len(world.bag) >= 2, lambda world: any(house is not None and house.role == "asks" for house in world.houses.values()),
                      lambda world: len(world.promises) > 0, lambda world: True)
        many = 0
        for seed in range(6):
            world = drawn_world(seed, 50)
            for does_break in statements:
                if does_break(world):
                    events = tight(world, does_break)
                    self.assertTrue(self.is_tight(world, events, does_break))
                    self.assertEqual(events, self.plain_tight(world, does_break))
                    self.assertTrue(self.is_part(events, world.events))
                    many += 1
        self.assertGreater(many, 15)

    def is_part(self, events, whole):
        rest = iter(whole)
        return all(event in rest for event in events)

    def plain_tight(self, world, does_break):
        begin = World(world.circle, len(world.clients), fold=world.fold, without=world.without)
        events, before = world.events, None
        while before != events:
            before = events
            for at in range(len(events) - 1, -1, -1):
                other = events[:at] + events[at + 1:]
                if kind_of_error(begin.run, [other]) is None and does_break(begin.run(other)) is True:
                    events = other
        return events

    def test_runs_that_break_one_row(self):
        for rule in ("best", "half", "sync"):
            run = broken_run(rule)
            # with events that are not needed
            world = world_of_run(run[:3] + (run[3] + (("beat", 8), ("sync", 7)),), without=rule)
            does_break = lambda told: not is_one_row(told)
            events = tight(world, does_break)
            self.assertLessEqual(len(events), len(run[3]))
            self.assertTrue(self.is_tight(world, events, does_break))

    def test_what_it_is_asked(self):
        asked = []

        def does_break(*args, **more):
            self.assertEqual((len(args), more), (1, {}))
            self.assertIsInstance(args[0], World)
            asked.append(len(args[0]))
            return len(args[0].history) > 0

        self.assertEqual(tight(RUN, does_break), (("call", 0, ("put", "a", 5)),))
        self.assertEqual(asked[0], 2)
        self.assertEqual(tight(RUN, lambda world: True), ())

    def test_other_returns(self):
        for value in (1, "True", False, None, (True,), 0):
            self.assertEqual(kind_of_error(tight, [RUN, lambda world: value]), (InvalidOperation, None))
            # for the shortened worlds alone: these do not break
            self.assertEqual(tight(RUN, lambda world: True if world.events == RUN.events else value), RUN.events)

    def test_errors(self):
        def raises(world):
            raise Broken

        def raises_late(world):
            if len(world) < 2:
                raise Refused(("mine",))
            return True

        with self.assertRaises(Broken):
            tight(RUN, raises)
        with self.assertRaises(Refused) as caught:
            tight(RUN, raises_late)
        self.assertEqual(caught.exception.reason, ("mine",))
        for value in odd_values():
            if not isinstance(value, World):
                self.assertEqual(kind_of_error(tight, [value, raises]), (InvalidWorld, None))

    def test_not_true(self):
        # tight, but not the fewest events: of two ways to break the statement the longer one is left
        call = ("call", 0, ("get", "a"))
        longer, shorter = (call, ("leave", 0), call), (("fall", 0, ()),)
        does_break = lambda told: told.houses[0] is None or told.clients[0].calls == 2
        self.assertEqual(tight(World(THREE, 1).run(longer + shorter), does_break), longer)
        self.assertEqual(tight(World(THREE, 1).run(shorter), does_break), shorter)


if __name__ == "__main__":
    unittest.main()
