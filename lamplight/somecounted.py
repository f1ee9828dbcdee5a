"""How often doors can have been gone through where some counters are known, or none."""

from lamplight.building import least_passes
from lamplight.doorcounts import is_counted_some
from lamplight.ends import need_all_lit, need_ends
from lamplight.errors import BadDoor, BadKnown
from lamplight.kinds import is_row
from lamplight.stamped import hours_over
from lamplight.ways import towards, way_between


def possible_counters(house, ledger, known, door):
    need_all_lit(house, ledger)
    if not is_counted_some(house, known):
        raise BadKnown(known)
    if not is_row(door) or tuple(door) not in house.doors():
        raise BadDoor(door)
    found = {}
    for first in house.rooms():
        for last in house.rooms():
            for many in counters_between(house, ledger, known, tuple(door), first, last):
                found[many] = True
    return sorted(found)


def moves_between(house, ledger, first, last):
    need_ends(house, ledger, first, last)
    return find_moves(house, ledger, first, last)


def possible_moves(house, ledger):
    need_all_lit(house, ledger)
    rooms = house.rooms()
    return sorted(set([many for first in rooms for last in rooms for many in find_moves(house, ledger, first, last)]))


def counters_between(house, hours, known, door, first, last):
    """Tell all that the counter of a door is in carryings from first to last."""
    counted = least_counters(house, first, last)
    if any([known[each] & 1 != counted[each] & 1 for each in known]):
        return []
    over = hours_over(house, hours, first, last)
    for each in known:
        # Each two passes more are a stay more at both rooms.
        for room in each:
            over[room] -= (known[each] - counted[each]) // 2
    if min([over[room] for room in over]) < 0:
        return []
    if door in known:
        return [known[door]]
    one, other = door
    return [counted[door] + 2 * more for more in range(min(over[one], over[other]) + 1)]


def least_counters(house, first, last):
    """Tell how often doors are gone through at least from first to last: once on the way, else twice."""
    rooms = way_between(house, first, last)
    return {door: 1 if door[0] in rooms and door[1] in rooms else 2 for door in house.doors()}


def find_moves(house, hours, first, last):
    over = hours_over(house, hours, first, last)
    if min([over[room] for room in over]) < 0:
        return []
    least = sum(least_passes(house, first, last).values())
    return [least + 2 * more for more in range(most_doors(house, over) + 1)]


def most_doors(house, over):
    """Tell how many doors can be taken, also again, no room being taken more often than it has hours over."""
    steps = towards(house, house.rooms()[0])
    left = dict(over)
    told = 0
    for room in reversed(list(steps)):
        # What is behind a room is done with, so it gives all that it has left to the door inward.
        if steps[room] is not None:
            taken = min(left[room], left[steps[room]])
            left[room] -= taken
            left[steps[room]] -= taken
            told += taken
    return told
