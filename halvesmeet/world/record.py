"""The record of a world: what no house reads, and what nothing leaves. It is part of the dict of a world's parts."""

from halvesmeet.base.values import ordered
from halvesmeet.house.facts import each_behind, facts_behind

# the names under which the record stands among the parts
RECORD = ("decided", "begins", "circles", "rows", "firsts", "votes", "promises", "answers")


def first_record(circle):
    """The record of a world at its beginning."""
    return {"decided": {}, "begins": {0: 0}, "circles": {0: circle}, "rows": {}, "firsts": {}, "votes": {},
            "promises": {}, "answers": {}}


def behind_turn(parts, before, house):
    """The parts behind what a house did at one event, before being the house ahead of it."""
    parts = _with_begins(parts, house.pending[len(before.pending):])
    if house.facts is None:
        return parts
    parts = _with_decided(parts, house.facts, house.decided)
    return _with_row(parts, house) if house.role == "leads" else parts


def _with_begins(parts, records):
    """The parts behind the begins among some records."""
    for record in records:
        if record[0][0] == "begin" and record[0][1] not in parts["begins"]:
            _, epoch, circle, _ = record[0]
            begins, circles = dict(parts["begins"]), dict(parts["circles"])
            begins[epoch] = record[1][1]
            circles[epoch] = circle
            parts = {**parts, "begins": begins, "circles": circles}
    return parts


def _with_decided(parts, facts, length):
    """The parts behind what a house has decided, up to a length, and still has in its facts."""
    table = parts["decided"]
    start = facts.base.length
    for offset, entry in enumerate(facts.entries[:max(0, length - start)]):
        told = table.get(start + offset, ())
        if entry not in told:
            table = {**table, start + offset: ordered(told + (entry,))}
    return {**parts, "decided": table}


def _with_row(parts, house):
    """The parts behind the row of a house that leads."""
    facts = house.facts
    key = (facts.epoch, house.memory.term)
    rows = parts["rows"]
    many = _many_of(parts, facts)
    if key in rows and len(rows[key]) >= many:
        return parts
    row = _row_of(parts, facts)
    firsts = parts["firsts"]
    if key not in firsts:
        firsts = {told: firsts[told] for told in firsts}
        firsts[key] = len(row)
    rows = {told: rows[told] for told in rows}
    rows[key] = row
    return {**parts, "rows": rows, "firsts": firsts}


def _many_of(parts, facts):
    """How many entries from the beginning of its epoch on a row has."""
    return max(0, facts.length - parts["begins"][facts.epoch])


def _row_of(parts, facts):
    """The entries of a row from the beginning of its epoch on, those that the base has left out being decided ones."""
    begin = parts["begins"][facts.epoch]
    base = facts.base.length
    table = parts["decided"]
    left_out = tuple([table[index][0] for index in range(begin, base) if index in table])
    return left_out + facts.entries[max(0, begin - base):]


def with_sure(parts, house):
    """The parts behind a sync of a house: the facts behind each record that it makes sure count."""
    number, sure = house.number, parts["sure"]
    facts = sure[number]
    for record in house.pending:
        facts = facts_behind(facts, record)
        parts = _with_facts(parts, number, facts)
    return {**parts, "sure": {**sure, number: facts}}


def with_left(parts, number, records):
    """The parts behind a fall of a house: the facts behind each record that is left to be read count."""
    sure, left = parts["sure"], None
    for facts in each_behind(records):
        parts = _with_facts(parts, number, facts)
        left = facts
    return {**parts, "sure": {**sure, number: left}}


def _with_facts(parts, number, facts):
    """The parts behind the vote and the promise that the sure facts of a house show."""
    promises = parts["promises"]
    if facts.promised > promises.get((facts.epoch, number), -1):
        promises = {told: promises[told] for told in promises}
        promises[(facts.epoch, number)] = facts.promised
    votes = parts["votes"]
    vote = (facts.epoch, facts.accepted, number)
    many = _many_of(parts, facts)
    if facts.accepted >= 0 and many > votes.get(vote, -1):
        votes = {told: votes[told] for told in votes}
        votes[vote] = many
    return {**parts, "promises": promises, "votes": votes}


def with_answers(parts, letters):
    """The parts behind letters that have gone into the bag."""
    told = [letter[2:] for letter in letters if letter[0] == "answer" and letter[2:] not in parts["answers"]]
    if not told:
        return parts
    answers = {answer: True for answer in parts["answers"]}
    for answer in told:
        answers[answer] = True
    return {**parts, "answers": answers}


def decided_pairs(table):
    """The ascending tuple of the pairs of an index and an entry that is decided there."""
    return tuple([(index, entry) for index in sorted(table) for entry in table[index]])


def are_one_row(table):
    """Whether what is decided has each index from 0 on just once."""
    return all([index in table and len(table[index]) == 1 for index in range(len(table))])
