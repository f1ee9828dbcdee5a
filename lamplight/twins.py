"""Twins: houses with the same full ledgers."""

from itertools import combinations
from math import comb, factorial
from lamplight.errors import UnlikeRooms
from lamplight.houses import reach
from lamplight.leastledgers import inner_rooms
from lamplight.otherhouses import part_with
from lamplight.plainhouses import find_bare, find_threes, plain_house


def are_twins(one, other):
    return find_bare(one) == find_bare(other) and find_threes(one) == find_threes(other)


def parting_ledger(one, other):
    rooms = one.rooms()
    alone = [room for room in rooms if not other.has(room)] + [room for room in other.rooms() if not one.has(room)]
    if alone:
        raise UnlikeRooms(min(alone))
    ours = find_bare(one)
    theirs = find_bare(other)
    # No room has more doors than there are rooms, so that with so many hours it lets be full what others let.
    ledger = {room: len(rooms) for room in rooms}
    for room in rooms:
        if ours[room] != theirs[room]:
            ledger[room] = min(ours[room], theirs[room])
            return ledger
    unlike = sorted(set(find_threes(one)) ^ set(find_threes(other)))
    if not unlike:
        return None
    for room in unlike[0]:
        ledger[room] = ours[room]
    return ledger


def bare_hours(house):
    return find_bare(house)


def bad_threes(house):
    return find_threes(house)


def pieces_of(house):
    if len(house) < 3:
        return []
    inner = find_inner_house(house)
    branching = find_branching(inner)
    return find_pieces(inner, branching) if branching else []


def plain_twin(house):
    return plain_house(find_bare(house), find_threes(house))


def twin_count(house):
    if len(house) < 3:
        return 1
    inner = find_inner_house(house)
    branching = find_branching(inner)
    # All leaves in any order, each room's own ones being told in one order alone.
    over = factorial(len(house) - len(inner))
    under = 1
    if not branching:
        over *= count_inner_lots(house)
        pieces = [inner.rooms()]
    else:
        pieces = find_pieces(inner, branching)
    for room in branching:
        under *= factorial(len(house.near(room)) - len(inner.near(room)))
    for piece in pieces:
        doors = [len(house.near(room)) for room in piece]
        free = 2 - len([room for room in branching if any([room in inner.near(other) for other in piece])])
        over *= count_rows(doors, min(free, len(piece)))
        for many in doors:
            under *= factorial(many - 1 if len(inner) > 1 else many)
    return over // under


def find_inner_house(house):
    """Tell the house of the inner rooms, of which there are some."""
    return part_with(house, inner_rooms(house))


def find_branching(inner):
    """Tell the rooms of an inner house with three doors or more in it, ascending."""
    return [room for room in inner.rooms() if len(inner.near(room)) > 2]


def find_pieces(inner, branching):
    others = [room for room in inner.rooms() if room not in branching]
    pieces = [reach(inner, room, others) for room in others]
    return [piece for room, piece in zip(others, pieces) if piece[0] == room]


def count_inner_lots(house):
    """Tell how many lots of rooms can have two doors in a house that is like a row, greater numbers standing fast."""
    doors = [len(house.near(room)) for room in house.rooms()]
    return comb(doors.count(1) + doors.count(2), doors.count(2))


def count_rows(doors, free):
    """Tell how many rows there are of rooms with so many doors, so many ends of the row being free.

    A room that is no free end counts once for each of its doors but one, as it has a leaf less.
    """
    told = 0
    for ends in combinations(range(len(doors)), int(free)):
        once = factorial(len(doors) - len(ends))
        for index, many in enumerate(doors):
            once *= 1 if index in ends else many - 1
        told += once
    return told
