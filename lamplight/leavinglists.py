"""Leavings: where the lamp goes from each room, hour by hour; and exchanges of them."""

from lamplight.building import go_by
from lamplight.carryings import need_carrying
from lamplight.errors import BadLeavings
from lamplight.houses import is_by_rooms, need_room
from lamplight.kinds import is_row


def leavings(house, carrying):
    need_carrying(house, carrying)
    return find_leavings(house, carrying)


def carried_by(house, lists, first):
    if not are_leavings(house, lists):
        raise BadLeavings(lists)
    need_room(house, first)
    carrying = go_by(lists, first)
    entries = sum([len(lists[room]) for room in lists])
    return carrying if len(carrying) == entries + 1 else None


def exchanges(house, carrying):
    need_carrying(house, carrying)
    told = []
    for room in house.rooms():
        places = places_of(carrying, room)
        for at in range(len(places) - 2):
            if carrying[places[at] + 1] != carrying[places[at + 1] + 1]:
                told.append(exchanged(carrying, places[at:at + 3]))
    return sorted(told)


def exchange_distance(house, one, other):
    need_carrying(house, one)
    need_carrying(house, other)
    ranks = find_ranks(house, one, other)
    return None if ranks is None else sum([len(exchange_places(ranks[room])) for room in ranks])


def exchange_row(house, one, other):
    need_carrying(house, one)
    need_carrying(house, other)
    ranks = find_ranks(house, one, other)
    if ranks is None:
        return None
    told = [list(one)]
    for room in ranks:
        for at in exchange_places(ranks[room]):
            told.append(exchanged(told[-1], places_of(told[-1], room)[at:at + 3]))
    return told


def find_leavings(house, carrying):
    told = {room: [] for room in house.rooms()}
    for index in range(1, len(carrying)):
        told[carrying[index - 1]].append(carrying[index])
    return told


def are_leavings(house, thing):
    """Tell of any object whether it is a dict from just all rooms to lists of rooms, each the same or beside it."""
    return is_by_rooms(house, thing) and all([are_entries(house, room, thing[room]) for room in thing])


def are_entries(house, room, thing):
    if not is_row(thing):
        return False
    there = house.near(room) + [room]
    return all([entry in there for entry in thing])


def places_of(carrying, room):
    return [place for place, name in enumerate(carrying) if name == room]


def exchanged(carrying, places):
    """Tell a carrying with what lies between the first two of three places and what lies behind them exchanged."""
    one, other, third = places
    rooms = list(carrying)
    return rooms[:one + 1] + rooms[other + 1:third + 1] + rooms[one + 1:other + 1] + rooms[third + 1:]


def find_ranks(house, one, other):
    """Tell of each room where the entries of its leavings by one stand by other, first of a kind by first.

    Told is None where no exchanges lead from one to other: if ledgers, passes or first rooms are unlike, which is so
    just if first rooms are, or leavings by more than their order.
    """
    if one[0] != other[0]:
        return None
    ours = find_leavings(house, one)
    theirs = find_leavings(house, other)
    told = {}
    for room in ours:
        if sorted(ours[room]) != sorted(theirs[room]):
            return None
        told[room] = ranks_in(ours[room], theirs[room])
    return told


def ranks_in(ours, theirs):
    """Tell the places of our entries among theirs, which are alike but for their order."""
    waiting = {}
    for place, entry in enumerate(theirs):
        waiting.setdefault(entry, []).append(place)
    used = {entry: 0 for entry in waiting}
    told = []
    for entry in ours:
        told.append(waiting[entry][used[entry]])
        used[entry] += 1
    return told


def exchange_places(ranks):
    """Tell the places of entries that are exchanged with the next ones, one after another, till ranks ascend."""
    row = list(ranks)
    told = []
    for many in range(1, len(row)):
        place = many
        while place > 0 and row[place - 1] > row[place]:
            place -= 1
            row[place], row[place + 1] = row[place + 1], row[place]
            told.append(place)
    return told
