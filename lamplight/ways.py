"""Ways through a house: from room to room without turning back."""

from itertools import combinations
from lamplight.errors import BadSome, NoDoor
from lamplight.houses import need_room, reach
from lamplight.kinds import is_row


def way(house, one, other):
    need_room(house, one)
    need_room(house, other)
    return way_between(house, one, other)


def least_way(house, some):
    need_some(house, some)
    if len(some) == 0:
        return []
    one, other = outer_ends(house, some)
    rooms = way_between(house, min(one, other), max(one, other))
    return rooms if has_all(rooms, some) else None


def meeting(house, one, other, third):
    for room in (one, other, third):
        need_room(house, room)
    steps = towards(house, one)
    on_way = climb(steps, other)
    # Going from third to one, the first room on the way of the others is on all three ways.
    common = [room for room in climb(steps, third) if room in on_way]
    return common[0]


def behind(house, room, other):
    need_room(house, room)
    need_room(house, other)
    if other not in house.near(room):
        raise NoDoor(room, other)
    return reach(house, other, [name for name in house.rooms() if name != room])


def some_fault(house, some):
    """Tell the index of the first thing that is no room or stood before, None if there is none."""
    if not is_row(some):
        return 0
    seen = {}
    for index, room in enumerate(some):
        if not house.has(room) or room in seen:
            return index
        seen[room] = True
    return None


def need_some(house, some):
    index = some_fault(house, some)
    if index is not None:
        raise BadSome(index)


def towards(house, root):
    """Tell of each room, outward from root, which room is next on the way to root: None of root itself."""
    steps = {root: None}
    waiting = [root]
    while waiting:
        room = waiting.pop()
        for other in house.near(room):
            if other not in steps:
                steps[other] = room
                waiting.append(other)
    return steps


def climb(steps, room):
    """Tell the way from room to the root of steps, as towards tells them."""
    rooms = [room]
    while steps[room] is not None:
        room = steps[room]
        rooms.append(room)
    return rooms


def way_between(house, one, other):
    """Tell what way tells, of what are known to be rooms."""
    return climb(towards(house, other), one)


def leaf_pairs(house):
    """Tell all pairs of leaves, one ahead of other, ascending: of one room alone it twice."""
    leaves = [room for room in house.rooms() if len(house.near(room)) < 2]
    if len(leaves) == 1:
        return [(leaves[0], leaves[0])]
    return list(combinations(leaves, 2))


def leaf_ways(house):
    """Tell the ways between all pairs of leaves, in the order of these: every way is part of one of them."""
    return [way_between(house, one, other) for one, other in leaf_pairs(house)]


def pairs_inward(house):
    """Tell all pairs (room, one beside it), each behind the pairs that lead on from its second room."""
    steps = towards(house, house.rooms()[0])
    outward = [room for room in steps if steps[room] is not None]
    return [(steps[room], room) for room in reversed(outward)] + [(room, steps[room]) for room in outward]


def doors_off(house, root):
    """Tell of each room how many doors it is off root."""
    steps = towards(house, root)
    off = {}
    for room in steps:
        off[room] = 0 if room == root else off[steps[room]] + 1
    return off


def outermost(house, room, some):
    """Tell one of some rooms, not none, that is most doors off room."""
    off = doors_off(house, room)
    return max(some, key=lambda other: off[other])


def outer_ends(house, some):
    """Tell both ends of the only way that could have all of some rooms, not none, and be shortest."""
    one = outermost(house, some[0], some)
    return one, outermost(house, one, some)


def has_all(rooms, some):
    return all([room in rooms for room in some])


def on_one_way(house, some):
    """Tell whether rooms lie on one way."""
    if len(some) == 0:
        return True
    one, other = outer_ends(house, some)
    return has_all(way_between(house, one, other), some)


def on_way_from(house, room, some):
    """Tell whether rooms lie on a way that begins at room."""
    if len(some) == 0:
        return True
    return has_all(way_between(house, room, outermost(house, room, some)), some)
