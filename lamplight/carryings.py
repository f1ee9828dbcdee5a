"""Carryings: an hour in a room, then the same room or one a door further."""

from lamplight.errors import BadCarrying, BadPasses
from lamplight.houses import need_room
from lamplight.kinds import is_number, is_row
from lamplight.ways import climb, towards


def is_carrying(house, thing):
    return carrying_fault(house, thing) is None


def stays(house, carrying):
    need_carrying(house, carrying)
    told = []
    for index, room in enumerate(carrying):
        if index > 0 and carrying[index - 1] == room:
            told[-1] = (room, told[-1][1] + 1)
        else:
            told.append((room, 1))
    return told


def passes(house, carrying):
    need_carrying(house, carrying)
    counted = {pair: 0 for pair in pairs_beside(house)}
    for index, room in enumerate(carrying):
        if index > 0 and carrying[index - 1] != room:
            counted[(carrying[index - 1], room)] += 1
    return counted


def first_lit(house, carrying):
    need_carrying(house, carrying)
    told = {}
    for hour, room in enumerate(carrying):
        if room not in told:
            told[room] = hour
    return told


def stays_by(house, counted, first, last):
    if not is_passes(house, counted):
        raise BadPasses(counted)
    need_room(house, first)
    need_room(house, last)
    if not leads_on(house, counted, first, last) or not hangs_at(house, counted, first):
        return None
    ends = [first, last]
    told = {}
    for room in house.rooms():
        through = sum([counted[(room, other)] + counted[(other, room)] for other in house.near(room)])
        told[room] = (through + ends.count(room)) // 2
    return told


def carrying_fault(house, thing):
    """Tell the index of the first thing that keeps any object from being a carrying, None if it is one."""
    if not is_row(thing) or len(thing) == 0:
        return 0
    ahead = None
    for index, room in enumerate(thing):
        if not may_follow(house, ahead, room):
            return index
        ahead = room
    return None


def may_follow(house, ahead, thing):
    """Tell whether any object is a room that may come behind the room ahead, None for the first hour."""
    if not house.has(thing):
        return False
    return ahead is None or thing == ahead or thing in house.near(ahead)


def need_carrying(house, carrying):
    index = carrying_fault(house, carrying)
    if index is not None:
        raise BadCarrying(index)


def pairs_beside(house):
    """Tell all pairs (room, one beside it), ascending."""
    return [(room, other) for room in house.rooms() for other in house.near(room)]


def is_passes(house, thing):
    """Tell of any object whether it is a dict from just all pairs of rooms beside one another to numbers."""
    pairs = pairs_beside(house)
    if not isinstance(thing, dict) or len(thing) != len(pairs):
        return False
    return all([pair in thing and is_number(thing[pair]) for pair in pairs])


def leads_on(house, counted, first, last):
    """Tell whether each door is gone through as often there as back, but once more on the way to last."""
    steps = towards(house, last)
    ahead = climb(steps, first)
    for room, step in steps.items():
        more = 1 if room in ahead else 0
        if step is not None and counted[(room, step)] != counted[(step, room)] + more:
            return False
    return True


def hangs_at(house, counted, first):
    """Tell whether from first the passes lead to all rooms at doors that were gone through."""
    found = {first: True}
    waiting = [first]
    while waiting:
        room = waiting.pop()
        for other in house.near(room):
            if other not in found and counted[(room, other)] > 0:
                found[other] = True
                waiting.append(other)
    return all([pair[0] in found for pair in counted if counted[pair] > 0])
