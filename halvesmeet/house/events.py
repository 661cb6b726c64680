"""What a house does at one event: first what waits, then what the event asks for, then the answers."""

from halvesmeet.house.asking import asked, is_out_of_patience, taken_ask, taken_bar, taken_grant
from halvesmeet.house.epochs import carries, ended, has_begun, of_other_epoch, taken_carry
from halvesmeet.house.laying import folded, lay_letter, taken_laid, taken_lay
from halvesmeet.house.memory import changed
from halvesmeet.house.serving import answered, served, taken_deed
from halvesmeet.house.turns import ask_to, is_over, laid_to


def turn_of_letter(facts, memory, house, letter, settings):
    """The turn of a house that takes a letter; settings has when to fold, and the rule that is left out."""
    many, without = settings
    records, memory, facts = _behind_waiting(facts, memory, house, many)
    before = memory.decided
    more, memory, facts, letters = _behind_letter(facts, memory, house, letter, without)
    return _with_answers((records + more, memory, facts, letters), house, before)


def turn_of_beat(facts, memory, house, settings):
    """The turn of a house at a beat."""
    if facts is None:
        return (), memory, facts, ()
    many, without = settings
    records, memory, facts = _behind_waiting(facts, memory, house, many)
    before = memory.decided
    memory, letters = _behind_beat(facts, memory, house, without)
    turn = (records, memory, facts, letters + carries(facts, memory, house))
    return _with_answers(turn, house, before)


def _behind_waiting(facts, memory, house, many):
    """The records, the memory and the facts behind what waits since the last event."""
    if facts is None or memory.role == "over":
        return (), memory, facts
    if is_over(memory):
        records, memory, facts, _ = ended(facts, memory, house)
        return records, memory, facts
    records, facts = folded(facts, memory, many)
    return records, memory, facts


def _with_answers(turn, house, before):
    """The turn with the answers for what was decided behind a length, and to reads."""
    records, memory, facts, letters = turn
    if facts is None:
        return turn
    start = min(max(before, facts.base.length), memory.decided)
    answers = answered(facts, memory, house, start)
    memory, more = served(facts, memory, house)
    return records, memory, facts, letters + answers + more


def _behind_letter(facts, memory, house, letter, without):
    """The turn behind a letter alone."""
    if letter[0] == "carry":
        return taken_carry(facts, memory, house, letter, without=without)
    if facts is None:
        return (), memory, facts, ()
    if letter[0] == "deed":
        return taken_deed(facts, memory, house, letter, without=without)
    if letter[1] != facts.epoch or is_over(memory):
        memory, letters = of_other_epoch(facts, memory, house, letter)
        return (), memory, facts, letters
    return _behind_own_epoch(facts, memory, house, letter, without)


def _behind_own_epoch(facts, memory, house, letter, without):
    """The turn behind a letter between houses, no carry, of the epoch of the house."""
    word, other = letter[0], letter[2]
    if other not in facts.circle or (word == "lay" and other == house):
        return (), memory, facts, ()
    if other != house:
        memory = has_begun(facts, memory, other)
    if word == "ask":
        return taken_ask(facts, memory, house, letter, without=without)
    if word == "grant":
        return taken_grant(facts, memory, house, letter, without=without)
    if word == "bar":
        return taken_bar(facts, memory, house, letter)
    if word == "lay":
        return taken_lay(facts, memory, house, letter, without=without)
    if word == "laid":
        return taken_laid(facts, memory, house, letter, without=without)
    return (), memory, facts, ()


def _behind_beat(facts, memory, house, without):
    """The memory and the letters of a house with an epoch behind a beat, but for its carries."""
    memory = changed(memory, {"counter": memory.counter + 1})
    if memory.role == "leads":
        return memory, _letters_of_leader(facts, memory, house, without)
    if not is_over(memory) and is_out_of_patience(facts, memory, house):
        _, memory, _, letters = asked(facts, memory, house)
        return memory, letters
    return memory, ()


def _letters_of_leader(facts, memory, house, without):
    """The letters of a house that leads at a beat."""
    letters = [laid_to(facts, house, house, memory.term, memory.round)]
    for other in [told for told in facts.circle if told != house]:
        if other in memory.laid or other in memory.at:
            letters.append(lay_letter(facts, memory, house, other, without=without))
        else:
            letters.append(ask_to(facts, memory, house, other, memory.term))
    return tuple(letters)
