"""How many carryings there are of so many hours."""

from itertools import combinations
from lamplight.errors import BadHours
from lamplight.kinds import is_positive


def count_lighting(house, hours):
    need_hours(hours)
    rooms = house.rooms()
    told = 0
    # Of carryings that light all rooms: all, less those without some room, these being counted again for two, ..
    for many in range(1, len(rooms) + 1):
        inside = sum([count_inside(house, some, hours) for some in combinations(rooms, many)])
        told += -inside if (len(rooms) - many) & 1 else inside
    return told


def count_rows(house, hours):
    need_hours(hours)
    return count_inside(house, house.rooms(), hours)


def need_hours(thing):
    if not is_positive(thing):
        raise BadHours(thing)


def count_inside(house, some, hours):
    """Tell how many carryings of so many hours there are in some rooms."""
    near = {room: [other for other in house.near(room) if other in some] for room in some}
    ending = {room: 1 for room in some}
    for _ in range(hours - 1):
        ending = {room: ending[room] + sum([ending[other] for other in near[room]]) for room in near}
    return sum([ending[room] for room in ending])
