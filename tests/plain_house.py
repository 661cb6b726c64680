"""A plain account of a house, written from the document alone: stages 10 to 14, with plain dicts and lists."""

from halvesmeet.disk.halves import Book
from halvesmeet.errors import TooMany
from halvesmeet.store.deeds import done
from halvesmeet.store.states import State, state_of_parts


class NoRoom(Exception):
    """Nothing of the event happens."""


class PlainHouse:
    """The epoch, circle, terms and row of a house, its memory, what it holds, and its pending records."""

    def __init__(self, house):
        """The account begins with a house as it has just risen, or is fresh."""
        self.number, self.fold, self.without = house.number, house.fold, house.without
        self.book = house.book
        self.held, self.pending = [], []
        self.facts = None
        if house.facts is not None:
            facts = house.facts
            self.facts = {"epoch": facts.epoch, "circle": facts.circle, "promised": facts.promised, "accepted": facts.accepted,
                          "base": facts.base, "entries": facts.entries}
        self.forget()

    def forget(self):
        """The memory of a house that rises."""
        state = State.first() if self.facts is None else self.facts["base"]
        role = "rests" if self.facts is None else "hears" if state.next is None else "over"
        self.memory = {"role": role, "leader": None, "state": state, "floor": -1 if self.facts is None else self.facts["promised"], "term": -1,
                       "counter": 0, "opening": 0, "round": 0, "grants": {}, "laid": {}, "at": {}, "heard": {}, "reads": (), "joined": ()}

    # what a house has

    def length(self):
        return self.facts["base"].length + len(self.facts["entries"])

    def decided(self):
        return self.memory["state"].length

    def is_over(self):
        return self.memory["state"].next is not None

    def from_index(self, start):
        """The base or None, the start and the entries that tell the row from an index on."""
        start = min(start, self.length())
        base = self.facts["base"]
        if start < base.length:
            return base.parts(), base.length, self.facts["entries"]
        return None, start, self.facts["entries"][start - base.length:]

    def state_at(self, length):
        base = self.facts["base"]
        return base.run(self.facts["entries"][:length - base.length])

    def is_ended(self):
        entries = self.facts["entries"]
        return self.facts["base"].next is not None or (len(entries) > 0 and entries[-1][2][0] == "circle")

    def is_enough(self, many, half=True):
        size = len(self.facts["circle"])
        return 2 * many > size or (half and self.without == "half" and 2 * many == size)

    # steps, with their records

    def promise(self, term):
        self.facts["promised"] = term
        self.records.append((("promise", term),))

    def lay(self, term, base, start, entries):
        own = self.facts["base"]
        if base is None and start > self.length() or start + len(entries) < own.length or len(entries) > 64:
            raise NoRoom
        parts = () if base is None else base.parts()
        self.records.append((("lay", term, start, len(parts)),) + parts + entries)
        if base is not None and base.length > own.length:
            self.facts["base"], row = base, entries
        elif start < own.length:
            row = entries[own.length - start:]
        else:
            row = self.facts["entries"][:start - own.length] + entries
        base = self.facts["base"]
        if len(row) > 64 or (base.next is not None and row) or any(entry[2][0] == "circle" for entry in row[:-1]):
            raise NoRoom
        self.facts["entries"], self.facts["accepted"] = row, term
        self.facts["promised"] = max(self.facts["promised"], term)

    def fold_all(self):
        length = min(self.decided(), self.length())
        if length > self.facts["base"].length:
            entries = self.facts["entries"][length - self.facts["base"].length:]
            self.facts["base"], self.facts["entries"] = self.state_at(length), entries
            self.records.append((("fold", length),))

    def begin(self, epoch, circle, base, promised):
        base = base if base.next is None else base.reopened()
        self.facts = {"epoch": epoch, "circle": circle, "promised": promised, "accepted": -1, "base": base, "entries": ()}
        self.records.append((("begin", epoch, circle, promised),) + base.parts())
        self.forget()

    # what is sent and remembered

    def send(self, word, goal, *rest):
        self.letters.append((word, self.facts["epoch"], self.number, goal) + rest)

    def send_grant(self, goal, term, start):
        self.send("grant", goal, term, self.facts["accepted"], self.decided(), *self.from_index(start))

    def send_laid(self, goal, term, heard):
        self.send("laid", goal, term, self.length(), heard)

    def send_lay(self, goal):
        memory = self.memory
        base, start, entries = self.from_index(memory["laid"].get(goal, memory["at"].get(goal)))
        if self.without == "whole" and goal not in memory["laid"]:
            entries = entries[:2]
        self.send("lay", goal, memory["term"], memory["opening"], base, start, entries, self.decided(), memory["round"])

    def only_hear(self, leader):
        self.memory.update(role="hears", leader=leader, grants={}, reads=())

    def decide(self, length):
        length = max(min(length, self.length()), self.facts["base"].length)
        if length > self.decided():
            self.memory["state"] = self.state_at(length)

    def ask(self):
        circle = self.facts["circle"]
        term = max(self.memory["floor"], self.facts["promised"]) + 1
        while circle[term % len(circle)] != self.number:
            term += 1
        self.memory.update(role="asks", term=term, grants={}, reads=(), counter=0, leader=None, floor=term)
        for goal in circle:
            self.send("ask", goal, term, self.decided())

    # letters of the own epoch

    def take_ask(self, other, term, start):
        memory = self.memory
        memory["floor"] = max(memory["floor"], term)
        if term < self.facts["promised"] and self.without != "promise":
            self.send("bar", other, term, self.facts["promised"])
            return
        if other != self.number:
            memory["counter"] = 0
        if term > self.facts["promised"]:
            self.promise(term)
            if not (other == self.number and memory["role"] == "asks" and memory["term"] == term):
                self.only_hear(None)
        self.send_grant(other, term, start)

    def take_bar(self, other, term, promised):
        memory = self.memory
        memory["floor"] = max(memory["floor"], term, promised)
        if memory["term"] == term and memory["role"] == "asks":
            self.ask()
        elif memory["term"] == term and memory["role"] == "leads":
            self.only_hear(None)
            memory["counter"] = 0

    def take_grant(self, other, term, *grant):
        memory = self.memory
        memory["floor"] = max(memory["floor"], term)
        if memory["term"] != term:
            return
        if memory["role"] == "leads" and other not in memory["laid"] and other != self.number:
            memory["at"][other] = grant[1]
            self.send_lay(other)
        if memory["role"] == "asks" and other not in memory["grants"] and (grant[2] is not None or grant[3] <= self.decided()):
            memory["grants"][other] = grant
            if self.is_enough(len(memory["grants"])) and self.number in memory["grants"]:
                self.lead()

    def lead(self):
        memory, grants = self.memory, self.memory["grants"]
        best = sorted(grants, key=lambda house: (-grants[house][0], -grants[house][3] - len(grants[house][4]), house))[0]
        base, start, entries = grants[best][2:]
        base = None if base is None else state_of_parts(base)
        if self.without == "best":
            base, start, entries = None, self.length(), ()
        elif start + len(entries) < self.decided():
            base, start, entries = None, self.decided(), ()
        if base is None and start + len(entries) - self.facts["base"].length > 64:
            self.fold_all()
        self.lay(memory["term"], base, start, entries)
        if base is not None and base.length > self.decided():
            memory["state"] = base
        memory.update(role="leads", leader=self.number, counter=0, opening=self.length(), laid={}, heard={}, round=0, reads=(),
                      at={house: grant[1] for house, grant in grants.items()})
        self.send_laid(self.number, memory["term"], 0)
        for goal in sorted(grants):
            if goal != self.number:
                self.send_lay(goal)

    def take_lay(self, other, term, first, base, start, entries, decided, count):
        memory, facts = self.memory, self.facts
        memory["floor"] = max(memory["floor"], term)
        if term < facts["promised"] and self.without != "promise":
            self.send("bar", other, term, facts["promised"])
            return
        self.only_hear(other)
        memory["counter"] = 0
        end = start + len(entries)
        fits = facts["accepted"] == term and self.length() >= start
        if not fits and (base is not None or start <= self.decided()):
            fits = end >= self.decided() and (end >= first or self.without == "whole")
        if not fits:
            if term > facts["promised"]:
                self.promise(term)
            self.send_grant(other, term, self.decided())
            return
        if not (facts["accepted"] == term and self.length() >= end):
            base = None if base is None else state_of_parts(base)
            if base is None and end - facts["base"].length > 64:
                if facts["accepted"] == term:
                    self.decide(decided)
                self.fold_all()
            self.lay(term, base, start, entries)
        self.decide(decided)
        self.send_laid(other, term, count)

    def take_laid(self, other, term, length, count):
        memory = self.memory
        memory["floor"] = max(memory["floor"], term)
        if memory["role"] != "leads" or not (term == memory["term"] or (self.without == "term" and term < memory["term"])):
            return
        memory["laid"][other] = max(length, memory["laid"].get(other, 0))
        memory["heard"][other] = max(count, memory["heard"].get(other, 0))
        for number in sorted(memory["laid"].values()):
            if self.is_enough(len([1 for told in memory["laid"].values() if told >= number])):
                self.decide(number)
        if other != self.number and memory["laid"][other] < self.length():
            self.send_lay(other)

    # deeds and answers

    def answer(self, client, number, answer, length):
        self.letters.append(("answer", self.number, client, number, answer, length))

    def send_try(self, client, number):
        memory = self.memory
        other = memory["leader"] if memory["role"] == "hears" else None
        epoch, circle = self.facts["epoch"], self.facts["circle"]
        if self.is_over():
            other, epoch, circle = None, epoch + 1, memory["state"].next
        self.letters.append(("try", self.number, client, number, other, epoch, circle))

    def take_deed(self, client, number, deed):
        memory = self.memory
        if memory["role"] != "leads":
            self.send_try(client, number)
        elif deed[0] in ("get", "list"):
            self.take_read(client, number, deed)
        else:
            kept = memory["state"].sessions.get(client)
            still_open = self.facts["entries"][max(0, self.decided() - self.facts["base"].length):]
            if kept is not None and kept[0] == number:
                self.answer(client, number, kept[1], kept[2])
            elif kept is not None and kept[0] > number or any(entry[0] == client and entry[1] >= number for entry in still_open):
                pass
            elif self.is_ended() or len(still_open) >= 16:
                self.send_try(client, number)
            else:
                self.lay(memory["term"], None, self.length(), ((client, number, deed),))
                self.send_laid(self.number, memory["term"], memory["round"])
                for goal in sorted(memory["laid"]):
                    if goal != self.number:
                        self.send_lay(goal)

    def take_read(self, client, number, deed):
        memory = self.memory
        if self.is_ended():
            self.send_try(client, number)
        elif any(read[:2] == (client, number) for read in memory["reads"]):
            pass
        elif self.without == "round":
            self.answer(client, number, done(memory["state"].pairs, deed)[1], self.decided())
        else:
            memory["round"] += 1
            memory["reads"] += ((client, number, deed, memory["round"]),)
            self.send_laid(self.number, memory["term"], memory["round"])
            for goal in sorted({*memory["laid"], *memory["at"]}):
                if goal != self.number:
                    self.send_lay(goal)

    def answer_new(self, before):
        """The answers for what was decided behind a length, and to reads that are served."""
        memory = self.memory
        if self.facts is None or memory["role"] != "leads":
            return
        base = self.facts["base"]
        for index in range(max(before, base.length), self.decided()):
            client, number, _ = self.facts["entries"][index - base.length]
            kept = self.state_at(index + 1).sessions[client]
            if kept[0] == number:
                self.answer(client, number, kept[1], kept[2])
        for read in memory["reads"]:
            heard = [house for house in self.facts["circle"] if memory["heard"].get(house, 0) >= read[3]]
            if self.is_enough(len(heard), half=False) and self.decided() >= memory["opening"]:
                memory["reads"] = tuple(other for other in memory["reads"] if other != read)
                self.answer(read[0], read[1], done(memory["state"].pairs, read[2])[1], self.decided())

    # epochs

    def end(self):
        state = self.memory["state"]
        if self.number in state.next:
            self.begin(self.facts["epoch"] + 1, state.next, state, -1)
        else:
            floor = self.memory["floor"]
            self.forget()
            self.memory.update(role="over", state=state, floor=floor)

    def send_next(self, goal):
        state = self.memory["state"]
        self.letters.append(("carry", self.facts["epoch"] + 1, self.number, goal, state.next, state.reopened().parts(), -1))

    def send_own(self, goal):
        self.send("carry", goal, self.facts["circle"], self.facts["base"].parts(), self.facts["promised"])

    def carry(self):
        if self.is_over():
            for goal in self.memory["state"].next:
                if goal not in self.memory["joined"]:
                    self.send_next(goal)
        elif self.facts["epoch"] > 0:
            for goal in self.facts["circle"]:
                if goal != self.number and goal not in self.memory["joined"]:
                    self.send_own(goal)

    def take_carry(self, epoch, other, circle, base, promised):
        own = -1 if self.facts is None else self.facts["epoch"]
        if self.number in circle and (own < epoch or (own == epoch and self.without == "carry")):
            self.begin(epoch, circle, state_of_parts(base), promised)
            self.send("begun", other)
        elif own == epoch:
            self.send("begun", other)

    def take_of_other_epoch(self, epoch, other):
        own = self.facts["epoch"]
        if epoch < own:
            if other in self.facts["circle"]:
                self.send_own(other)
        elif self.is_over() and other in self.memory["state"].next:
            if epoch == own:
                self.send_next(other)
            elif epoch == own + 1:
                self.join(other)

    def join(self, other):
        self.memory["joined"] = tuple(sorted({*self.memory["joined"], other}))

    # events

    def event(self, act):
        """One event: what waits, the event itself, the answers, and the records."""
        kept = (dict(self.facts) if self.facts else None, {name: dict(told) if isinstance(told, dict) else told for name, told in self.memory.items()})
        self.records, self.letters = [], []
        try:
            if self.facts is not None and self.memory["role"] != "over":
                if self.is_over():
                    self.end()
                elif min(self.decided(), self.length()) - self.facts["base"].length >= self.fold:
                    self.fold_all()
            before = self.decided()
            act()
            self.answer_new(before)
            book = self.book
            for record in self.records:
                book = book.turned((record,)) if book.half is None else book.added(record)
        except (NoRoom, TooMany):
            self.facts, self.memory = kept
            return
        self.book = book
        self.held += self.letters
        self.pending += self.records

    def take(self, letter):
        self.event(lambda: self.take_now(letter))

    def take_now(self, letter):
        if letter[0] == "deed":
            if self.facts is not None:
                self.take_deed(letter[1], letter[3], letter[4])
            return
        word, epoch, other = letter[:3]
        if word == "carry":
            self.take_carry(epoch, other, *letter[4:])
        elif self.facts is None:
            pass
        elif epoch != self.facts["epoch"] or self.is_over():
            self.take_of_other_epoch(epoch, other)
        elif other in self.facts["circle"] and not (word == "lay" and other == self.number):
            if other != self.number:
                self.join(other)
            if word != "begun":
                getattr(self, "take_" + word)(other, *letter[4:])

    def beat(self):
        if self.facts is not None:
            self.event(self.beat_now)

    def beat_now(self):
        memory = self.memory
        memory["counter"] += 1
        if memory["role"] == "leads":
            self.send_laid(self.number, memory["term"], memory["round"])
            for goal in self.facts["circle"]:
                if goal in memory["laid"] or goal in memory["at"]:
                    if goal != self.number:
                        self.send_lay(goal)
                elif goal != self.number:
                    self.send("ask", goal, memory["term"], self.decided())
        elif not self.is_over() and memory["counter"] >= 3 + self.facts["circle"].index(self.number):
            self.ask()
        self.carry()

    def sync(self):
        letters, self.held, self.pending = self.held, [], []
        self.book = self.book.synced()
        if self.facts is not None and self.book.is_full:
            facts = self.facts
            parts = facts["base"].parts()
            head = ("facts", facts["epoch"], facts["circle"], facts["promised"], facts["accepted"], len(parts))
            self.book = self.book.turned(((head,) + parts + facts["entries"],))
        return tuple(letters)

    def release(self):
        letters, self.held = self.held, []
        return tuple(letters)


def told_of(house):
    """What a House has, as the account tells it."""
    facts = house.facts
    if facts is not None:
        facts = {name: getattr(facts, name) for name in ("epoch", "circle", "promised", "accepted", "base", "entries")}
    names = ("role", "leader", "state", "floor", "term", "counter", "opening", "round", "grants", "laid", "at", "heard", "reads", "joined")
    return facts, {name: getattr(house.memory, name) for name in names}, list(house.held), list(house.pending), house.book
