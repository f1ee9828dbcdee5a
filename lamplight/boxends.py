"""First and last rooms, and passes, of the carryings of a box that leaves no room dark."""

from lamplight.ends import find_needs
from lamplight.errors import NoDoor
from lamplight.houses import need_room
from lamplight.roomhours import need_whole
from lamplight.ways import way_between


def box_ends(house, box):
    need_whole(house, box)
    told = []
    for first in house.rooms():
        told += [(first, last) for last in house.rooms() if least_over(box, find_needs(house, first, last)) >= 0]
    return told


def door_passes(house, box, one, other):
    need_whole(house, box)
    need_room(house, one)
    need_room(house, other)
    if other not in house.near(one):
        raise NoDoor(one, other)
    # The most passes of a door on the way from first to last, and of one beside it: 0 where there is no such way.
    most = {1: 0, 2: 0}
    for first in house.rooms():
        for last in house.rooms():
            wanted = find_needs(house, first, last)
            if first <= last and least_over(box, wanted) >= 0:
                through = way_between(house, first, last)
                least = 1 if one in through and other in through else 2
                again = min(box[one][1] - wanted[one], box[other][1] - wanted[other])
                most[least] = max(most[least], least + 2 * again)
    return sorted(list(range(1, most[1] + 1, 2)) + list(range(2, most[2] + 1, 2)))


def least_over(box, wanted):
    """Tell the least that the most hours of a room are above its need, which is 0 or more where ledgers let it."""
    return min([box[room][1] - wanted[room] for room in wanted])
