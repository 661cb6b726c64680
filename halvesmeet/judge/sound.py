"""What holds in every world: its pictures are sound, and its houses and answers are as they show."""

from halvesmeet.base.checks import check_number
from halvesmeet.base.values import MAX_HOUSES
from halvesmeet.disk.halves import Book
from halvesmeet.errors import InvalidNumber, InvalidOperation
from halvesmeet.house.facts import facts_until_wrong
from halvesmeet.house.terms import lots_of
from halvesmeet.judge.pictures import check_picture, first_row, made_picture
from halvesmeet.store.deeds import READ_WORDS, STOP_WORD, do_deed
from halvesmeet.store.states import State
from halvesmeet.world.worlds import check_world


def picture_of(world, epoch):
    """The picture that the record of a world tells of an epoch."""
    check_world(world)
    check_number(epoch, 0)
    if epoch not in world.begins:
        raise InvalidNumber(epoch)
    return _picture_of(world, epoch)


def _picture_of(world, epoch):
    """As picture_of, for an epoch that was begun."""
    circle = world.circles[epoch]
    promises = world.promises
    promised = {house: promises.get((epoch, house), -1) for house in circle}
    rows = {key[1]: row for key, row in world.rows.items() if key[0] == epoch}
    firsts = {key[1]: many for key, many in world.firsts.items() if key[0] == epoch}
    votes = {house: {} for house in circle}
    for (told, term, house), many in world.votes.items():
        if told == epoch and house in votes:
            votes[house][term] = many
    return made_picture(circle, promised, rows, firsts, votes)


def actions_between(one, other):
    """The actions that lead from one picture to another one, None if there are none."""
    check_picture(one)
    check_picture(other)
    if one.circle != other.circle:
        raise InvalidOperation("the pictures have unlike circles")
    found = []
    later = one
    for action in _wished_actions(one, other):
        if action[0] == "lead":
            action = _lead_to(later, action[1], action[2])
        if not later.is_let(action):
            return None
        later = later.done(action)
        found.append(action)
    return tuple(found) if later == other else None


def _wished_actions(one, other):
    """The actions that can lead to another picture, a lead having the wished first row in the place of its lot."""
    own_rows, own_votes, firsts = one.rows, one.votes, other.firsts
    found = []
    for term, row in other.rows.items():
        known = len(own_rows[term]) if term in own_rows else firsts[term]
        if term not in own_rows:
            found.append(("lead", term, row[:known]))
        found += [("append", term, entry) for entry in row[known:]]
    for house, told in other.votes.items():
        promised = one.promised[house]
        for term, many in told.items():
            if many != own_votes[house].get(term):
                found.append(("vote", house, term, many))
                promised = term
        if promised != other.promised[house]:
            found.append(("promise", house, other.promised[house]))
    return found


def _lead_to(picture, term, row):
    """The lead of a term by the least lot that tells a row, None if there is none."""
    lots = [lot for many in range(1, len(picture.circle) + 1) for lot in lots_of(picture.circle, many)]
    for lot in sorted(lots):
        if picture.is_let(("lead", term, lot)) and first_row(picture, term, lot) == row:
            return "lead", term, lot
    return None


def fault(world):
    """The first broken sentence, or None."""
    check_world(world)
    pictures = {epoch: _picture_of(world, epoch) for epoch in world.begins}
    for epoch, picture in pictures.items():
        found = picture.fault()
        if found is not None:
            return found[:1] + (epoch,) + found[1:]
    rows = {epoch: picture.row() for epoch, picture in pictures.items()}
    row = tuple([entry for told in rows.values() for entry in told])
    states = _states_along(row)
    for number in range(MAX_HOUSES):
        if not _is_disk_shown(world, pictures, states, number):
            return "disks", number
    for number in range(MAX_HOUSES):
        if not _is_state_shown(world, row, states, number):
            return "states", number
    if not _do_epochs_follow(world, rows):
        return ("states",)
    return _first_wrong_answer(world, row, states)


def is_sound(world):
    """Whether no sentence is broken."""
    return fault(world) is None


def _states_along(row):
    """The states behind all beginnings of a row, stops being passed by opening the state again."""
    states = [State.first()]
    for entry in row:
        last = states[-1]
        states.append((last if last.next is None else last.reopened()).run((entry,)))
    return states


def _is_state_of(world, states, epoch, state):
    """Whether a state is that behind the beginning of the row of all of its length, as a house in an epoch has it."""
    if state.length >= len(states):
        return False
    wished = states[state.length]
    # an epoch begins with the state behind the stop, opened again
    if wished.next is not None and state.length == world.begins[epoch]:
        wished = wished.reopened()
    return state == wished


def _is_disk_shown(world, pictures, states, number):
    """Whether the sure facts of a house are as the picture of their epoch shows."""
    facts = facts_until_wrong(Book(world.disks[number].fallen(()), without=world.without).records)
    if facts is None:
        return True
    picture = pictures[facts.epoch]
    if number not in picture.circle or facts.promised != picture.promised[number]:
        return False
    votes = picture.votes[number]
    if facts.accepted != max(votes, default=-1) or not _is_state_of(world, states, facts.epoch, facts.base):
        return False
    if facts.accepted == -1:
        return True
    begin = world.begins[facts.epoch]
    many, start = votes[facts.accepted], facts.base.length - begin
    return facts.length - begin == many and facts.entries == picture.rows[facts.accepted][start:many]


def _is_state_shown(world, row, states, number):
    """Whether what a house that is up has decided begins the row of all, and its state is that behind it."""
    house = world.houses[number]
    if house is None or house.facts is None:
        return True
    facts = house.facts
    start = facts.base.length
    if not _is_state_of(world, states, facts.epoch, house.memory.state):
        return False
    return facts.entries[:house.decided - start] == row[start:house.decided]


def _do_epochs_follow(world, rows):
    """Whether each later epoch begins where the one ahead ends, with a stop that tells its circle."""
    begins, circles = world.begins, world.circles
    for epoch in [told for told in begins if told > 0]:
        ahead = rows.get(epoch - 1, ())
        if ahead == () or begins[epoch] != begins[epoch - 1] + len(ahead):
            return False
        if ahead[-1][2] != (STOP_WORD, circles[epoch]):
            return False
    return True


def _first_wrong_answer(world, row, states):
    """The first answer that is neither that of the entry just ahead nor that of a read; None without one."""
    deeds = {told[1:3]: told[3] for told in world.history if told[0] == "call"}
    for index, told in enumerate(world.answers):
        if told[3] >= len(states) or not _is_answer_at(row, states, deeds[told[:2]], told):
            return "answers", index
    return None


def _is_answer_at(row, states, deed, told):
    """Whether an answer to a deed is right at its length, which the row of all has."""
    client, number, answer, length = told
    state = states[length]
    if deed[0] in READ_WORDS:
        return do_deed(state.pairs, deed)[1] == answer
    return length > 0 and row[length - 1][:2] == (client, number) and state.kept(client, number) == answer
