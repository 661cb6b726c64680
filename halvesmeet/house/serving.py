"""Deeds, reads and answers: what clients get from a house."""

from halvesmeet.base.checks import check_client, check_number
from halvesmeet.errors import InvalidOperation
from halvesmeet.house.facts import lay
from halvesmeet.house.memory import changed, check_rule
from halvesmeet.house.terms import is_enough
from halvesmeet.house.turns import check_of_circle, check_place, is_over, laid_to, lays_to
from halvesmeet.net.letters import check_letter
from halvesmeet.store.deeds import READ_WORDS, do_deed

MOST_OPEN = 16


def taken_deed(facts, memory, house, letter, *, without=None):
    """The turn of a house to which a client sends a deed."""
    check_place(facts, memory, house)
    check_letter(letter)
    check_rule(without)
    check_of_circle(facts, house)
    if letter[0] != "deed" or letter[2] != house:
        raise InvalidOperation("the letter brings no deed, or goes elsewhere")
    _, client, _, number, deed = letter
    if memory.role != "leads":
        return (), memory, facts, (_try_of(facts, memory, house, client, number),)
    if deed[0] in READ_WORDS:
        return _behind_read(facts, memory, house, letter, without)
    return _behind_change(facts, memory, house, letter, without)


def _behind_read(facts, memory, house, letter, without):
    """The turn of a house that leads behind a read."""
    _, client, _, number, deed = letter
    if facts.is_ended:
        return (), memory, facts, (_try_of(facts, memory, house, client, number),)
    if (client, number) in [row[:2] for row in memory.reads]:
        return (), memory, facts, ()
    if without == "round":
        return (), memory, facts, (_answer_to_read(memory, house, (client, number, deed)),)
    count = memory.round + 1
    later = changed(memory, {"round": count, "reads": memory.reads + ((client, number, deed, count),)})
    goals = later.at
    goals.update(later.laid)
    letters = (laid_to(facts, house, house, later.term, count),)
    return (), later, facts, letters + lays_to(facts, later, house, goals, without)


def _behind_change(facts, memory, house, letter, without):
    """The turn of a house that leads behind a deed that is no read."""
    _, client, _, number, deed = letter
    state = memory.state
    session = state.sessions.get(client)
    if session is not None and session[0] >= number:
        if session[0] > number:
            return (), memory, facts, ()
        return (), memory, facts, (("answer", house, client, number, session[1], session[2]),)
    still_open = _open_entries(facts, memory)
    if any([entry[0] == client and entry[1] >= number for entry in still_open]):
        return (), memory, facts, ()
    if facts.is_ended or len(still_open) >= MOST_OPEN:
        return (), memory, facts, (_try_of(facts, memory, house, client, number),)
    facts, record = lay(facts, memory.term, None, facts.length, ((client, number, deed),))
    letters = (laid_to(facts, house, house, memory.term, memory.round),)
    return (record,), memory, facts, letters + lays_to(facts, memory, house, memory.laid, without)


def _open_entries(facts, memory):
    """The entries of the row that are not decided."""
    return facts.tail(max(facts.base.length, min(memory.decided, facts.length)))


def answered(facts, memory, house, length):
    """The answers for the entries with indices from a length on that are decided."""
    check_place(facts, memory, house)
    check_number(length, facts.base.length, memory.decided)
    check_of_circle(facts, house)
    if memory.role != "leads" or length >= min(memory.decided, facts.length):
        return ()
    state = facts.state_at(length)
    found = []
    for client, number, deed in facts.tail(length)[:memory.decided - length]:
        state, answer = state.done((client, number, deed))
        if answer is not None:
            found.append(("answer", house, client, number, answer, state.sessions[client][2]))
    return tuple(found)


def served(facts, memory, house):
    """The memory without the reads that are served now, and their answers."""
    check_place(facts, memory, house)
    check_of_circle(facts, house)
    if memory.role != "leads" or memory.decided < memory.opening:
        return memory, ()
    heard = [count for other, count in memory.heard.items() if other in facts.circle]
    ready = []
    waiting = []
    for row in memory.reads:
        if is_enough(facts.circle, len([count for count in heard if count >= row[3]]), None):
            ready.append(row)
        else:
            waiting.append(row)
    if not ready:
        return memory, ()
    later = changed(memory, {"reads": tuple(waiting)})
    return later, tuple([_answer_to_read(memory, house, row[:3]) for row in ready])


def _answer_to_read(memory, house, read):
    """The plain answer to a read at the state of what is decided; the read has a client, a number and a deed."""
    client, number, deed = read
    return "answer", house, client, number, do_deed(memory.state.pairs, deed)[1], memory.decided


def try_letter(facts, memory, house, client, number):
    """The letter that sends a client to another house, or to the next epoch."""
    check_place(facts, memory, house)
    check_client(client)
    check_number(number, 1)
    return _try_of(facts, memory, house, client, number)


def _try_of(facts, memory, house, client, number):
    """As try_letter, for what was checked."""
    if is_over(memory):
        return "try", house, client, number, None, facts.epoch + 1, memory.state.next
    other = memory.leader if memory.role == "hears" else None
    return "try", house, client, number, other, facts.epoch, facts.circle
