"""Going on: what has begun, and whether it can still become a carrying with the ledger."""

from lamplight.carryings import may_follow
from lamplight.errors import BadBegun
from lamplight.kinds import is_row
from lamplight.ledgers import need_ledger
from lamplight.onelaw import find_lacking, find_short, holds, is_lit_joined, spare_hours
from lamplight.ways import on_way_from


def first_carrying(house, ledger):
    if not holds(house, ledger):
        return None
    return first_rest(house, all_left(house, ledger), None)


def next_rooms(house, ledger, begun):
    need_ledger(house, ledger)
    need_begun(house, ledger, begun)
    left = all_left(house, ledger)
    for room in begun:
        left[room] -= 1
    ahead = begun[-1] if len(begun) > 0 else None
    return [room for room in comers(house, left, ahead) if can_go_on(house, left, room)]


def lost_at(house, ledger, begun):
    need_ledger(house, ledger)
    need_begun(house, ledger, begun)
    if not holds(house, ledger):
        return 0
    left = all_left(house, ledger)
    for index, room in enumerate(begun):
        if not can_go_on(house, left, room):
            return index + 1
        left[room] -= 1
    return None


def all_left(house, ledger):
    """Tell the hours left, ascending by rooms, ahead of the first hour."""
    return {room: ledger[room] for room in house.rooms()}


def may_come(house, left, ahead, thing):
    """Tell whether any object is a room that may come behind the room ahead, None for the first hour."""
    return may_follow(house, ahead, thing) and left[thing] > 0


def comers(house, left, ahead):
    """Tell the rooms that may come next, ascending."""
    return [room for room in house.rooms() if may_come(house, left, ahead, room)]


def can_go_on(house, left, room):
    """Tell whether from room, its present hour counted among those left, some carrying uses all that is left."""
    spare = spare_hours(house, left)
    if spare[room] == 0 or find_lacking(spare) or not is_lit_joined(house, left):
        return False
    return on_way_from(house, room, find_short(spare))


def first_going_on(house, left, ahead):
    """Tell the first of the rooms with which it can go on, None if there is none."""
    for room in comers(house, left, ahead):
        if can_go_on(house, left, room):
            return room
    return None


def first_rest(house, left, ahead):
    """Tell the first row of rooms that uses all that is left behind the room ahead, None at first, where there is one.

    What is left is used up by it.
    """
    rooms = []
    for _ in range(sum([left[room] for room in left])):
        ahead = first_going_on(house, left, ahead)
        left[ahead] -= 1
        rooms.append(ahead)
    return rooms


def begun_fault(house, ledger, begun):
    """Tell the index of the first thing that keeps it from being begun, None if there is none."""
    if not is_row(begun):
        return 0
    left = all_left(house, ledger)
    ahead = None
    for index, room in enumerate(begun):
        if not may_come(house, left, ahead, room):
            return index
        left[room] -= 1
        ahead = room
    return None


def need_begun(house, ledger, begun):
    index = begun_fault(house, ledger, begun)
    if index is not None:
        raise BadBegun(index)
