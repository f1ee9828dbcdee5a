"""The least ledgers of carryings that light all rooms of a house."""

from itertools import combinations
from math import comb
from lamplight.building import carrying_by, least_passes
from lamplight.ends import find_needs
from lamplight.kinds import need_number
from lamplight.ways import doors_off, outer_ends, way_between


def least_ledgers(house):
    rooms = house.rooms()
    rows = []
    for through in least_ways(house):
        # A house of one room has no door, and wants an hour.
        doors = [max(len(house.near(room)), 1) for room in rooms]
        rows.append([many - 1 if room in through else many for room, many in zip(rooms, doors)])
    return [dict(zip(rooms, row)) for row in sorted(rows)]


def shortest_carrying(house):
    first, last = outer_ends(house, house.rooms())
    return carrying_by(house, find_needs(house, first, last), least_passes(house, first, last), first, last, {})


def ledgers_with(house, hours):
    need_number(hours)
    many = len(house)
    if many == 1:
        return min(hours, 1)
    told = 0
    for short, lots in enumerate(count_lots(house)):
        # All hours but those that the needs take are anyone's but the short rooms'.
        free = hours - 2 * (many - 1) + short
        if free >= 0:
            told += lots * comb(free + many - short - 1, free)
    return told


def inner_rooms(house):
    """Tell the rooms with two doors or more, ascending."""
    return [room for room in house.rooms() if len(house.near(room)) > 1]


def least_ways(house):
    """Tell the ways along which least ledgers have an hour less than doors: [[]] of a house without such rooms."""
    inner = inner_rooms(house)
    if len(inner) < 2:
        return [inner]
    outer = [room for room in inner if len([other for other in house.near(room) if other in inner]) == 1]
    told = []
    for one, other in combinations(outer, 2):
        told.append(way_between(house, one, other))
    return told


def count_lots(house):
    """Tell how many lots of each number of inner rooms, from none on, lie on one way."""
    inner = inner_rooms(house)
    lots = [0 for _ in range(len(inner) + 1)]
    lots[0] = 1
    for index, one in enumerate(inner):
        lots[1] += 1
        off = doors_off(house, one)
        # Outermost rooms of a lot are unlike, and any of those between may be in it.
        for other in inner[index + 1:]:
            for many in range(off[other]):
                lots[many + 2] += comb(off[other] - 1, many)
    return lots
