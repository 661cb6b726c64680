"""The parts of a world at a moment, and how each event leads to others.

The parts are a dict: "houses" with None for those that are down, "fallen" with their disks, "sure" with the sure facts
of all houses, "bag", "clients", "history", and the record (halvesmeet.world.record).
"""

from halvesmeet.base.values import MAX_HOUSES, are_indices
from halvesmeet.disk.halves import Book
from halvesmeet.house.houses import House
from halvesmeet.net.letters import Bag, receiver
from halvesmeet.world.clients import Client
from halvesmeet.world.record import behind_turn, first_record, with_answers, with_left, with_sure


def first_parts(settings):
    """The parts of a world at its beginning; settings has the circle, the number of clients, when to fold, a rule."""
    circle, many, fold, without = settings
    houses = {}
    for number in range(MAX_HOUSES):
        own = circle if number in circle else None
        houses[number] = House.fresh(number, own, fold=fold, without=without)
    sure = {number: house.facts for number, house in houses.items()}
    clients = tuple([Client(number, circle) for number in range(many)])
    record = first_record(circle)
    return {"houses": houses, "fallen": {}, "sure": sure, "bag": Bag(), "clients": clients, "history": (), **record}


def disks_of(parts):
    """The disks of all houses, up or down, by their numbers."""
    fallen = parts["fallen"]
    return {number: fallen[number] if house is None else house.book.disk for number, house in parts["houses"].items()}


def _has_index(parts, event):
    return event[1] < len(parts["bag"])


def _is_up(parts, event):
    return parts["houses"][event[1]] is not None


def _is_down(parts, event):
    return parts["houses"][event[1]] is None


def _can_fall(parts, event):
    house = parts["houses"][event[1]]
    return house is not None and are_indices(event[2], len(house.book.disk.waiting))


def _can_call(parts, event):
    clients = parts["clients"]
    return event[1] < len(clients) and clients[event[1]].open_call is None


def _has_open_call(parts, event):
    clients = parts["clients"]
    return event[1] < len(clients) and clients[event[1]].open_call is not None


MAY_BE = {
    "take": _has_index, "lose": _has_index, "double": _has_index, "beat": _is_up, "sync": _is_up, "fall": _can_fall,
    "rise": _is_down, "call": _can_call, "again": _has_open_call, "leave": _has_open_call}


def may_be(parts, event):
    """Whether an event can be next."""
    test = MAY_BE[event[0]]
    return test(parts, event)


def _with_client(parts, client):
    """The parts with another client in the place of the one with its number."""
    clients = parts["clients"]
    number = client.number
    return {**parts, "clients": clients[:number] + (client,) + clients[number + 1:]}


def _with_house(parts, house):
    houses = parts["houses"]
    return {**parts, "houses": {**houses, house.number: house}}


def _with_letters(parts, letters):
    """The parts behind letters that go into the bag."""
    later = with_answers(parts, letters)
    return {**later, "bag": parts["bag"].sent(letters)}


def _with_turn(parts, house):
    """The parts behind what a house has done at one event."""
    before = parts["houses"][house.number]
    letters = ()
    if house.without == "sync":
        house, letters = house.released()
    return _with_letters(behind_turn(_with_house(parts, house), before, house), letters)


def _behind_take(parts, event, settings):
    letter, bag = parts["bag"].taken(event[1])
    later = {**parts, "bag": bag}
    kind, number = receiver(letter)
    if kind == "client":
        return _with_reply(later, number, letter)
    house = parts["houses"][number]
    return later if house is None else _with_turn(later, house.taken(letter))


def _with_reply(parts, number, letter):
    """The parts behind a letter that a client takes."""
    client, closing = parts["clients"][number].taken(letter)
    later = _with_client(parts, client)
    if closing is None:
        return later
    row = ("answer", number, letter[3]) + closing
    return {**later, "history": parts["history"] + (row,)}


def _behind_lose(parts, event, settings):
    return {**parts, "bag": parts["bag"].lost(event[1])}


def _behind_double(parts, event, settings):
    return {**parts, "bag": parts["bag"].doubled(event[1])}


def _behind_beat(parts, event, settings):
    return _with_turn(parts, parts["houses"][event[1]].beaten())


def _behind_sync(parts, event, settings):
    house = parts["houses"][event[1]]
    later, letters = house.synced()
    return _with_letters(_with_house(with_sure(parts, house), later), letters)


def _behind_fall(parts, event, settings):
    _, number, kept = event
    disk = parts["houses"][number].fallen(kept)
    later = with_left(parts, number, Book(disk, without=settings[3]).records)
    houses, fallen = parts["houses"], parts["fallen"]
    return {**later, "houses": {**houses, number: None}, "fallen": {**fallen, number: disk}}


def _behind_rise(parts, event, settings):
    number = event[1]
    _, _, fold, without = settings
    house = House.risen(number, parts["fallen"][number], fold=fold, without=without)
    fallen = {other: disk for other, disk in parts["fallen"].items() if other != number}
    later = _with_house(parts, house)
    return {**later, "fallen": fallen}


def _behind_call(parts, event, settings):
    _, number, deed = event
    client, letter = parts["clients"][number].called(deed)
    later = _with_letters(_with_client(parts, client), (letter,))
    return {**later, "history": parts["history"] + (("call", number, client.calls, deed),)}


def _behind_again(parts, event, settings):
    client, letter = parts["clients"][event[1]].again(event[2])
    return _with_letters(_with_client(parts, client), (letter,))


def _behind_leave(parts, event, settings):
    return _with_client(parts, parts["clients"][event[1]].given_up())


EVENT_STEPS = {
    "take": _behind_take, "lose": _behind_lose, "double": _behind_double, "beat": _behind_beat, "sync": _behind_sync,
    "fall": _behind_fall, "rise": _behind_rise, "call": _behind_call, "again": _behind_again, "leave": _behind_leave}


def behind_event(parts, event, settings):
    """The parts behind an event that can be next."""
    step = EVENT_STEPS[event[0]]
    return step(parts, event, settings)


def choices_of(parts, deeds):
    """The list of the events that World.choices tells, in any sequence."""
    found = []
    for index in range(len(parts["bag"])):
        found += [("take", index), ("lose", index), ("double", index)]
    for number, house in parts["houses"].items():
        if house is None:
            found.append(("rise", number))
        else:
            found += [("beat", number), ("sync", number)]
            found += [("fall", number, kept) for kept in _kept_choices(len(house.book.disk.waiting))]
    ready = [number for number, house in parts["houses"].items() if house is not None and house.facts is not None]
    for client in parts["clients"]:
        if client.open_call is None:
            found += [("call", client.number, deed) for deed in deeds]
        else:
            found.append(("leave", client.number))
            found += [("again", client.number, number) for number in ready]
    return found


def _kept_choices(many):
    """What can be kept of so many puts: none, all, just one, or all but one."""
    whole = tuple([index for index in range(many)])
    return [(), whole] + [(index,) for index in whole] + [whole[:index] + whole[index + 1:] for index in whole]
