"""What full ledgers show of a house, and the plain house that shows it."""

from itertools import combinations
from lamplight.houses import House, doors_fault
from lamplight.leastledgers import inner_rooms
from lamplight.ways import on_one_way


def find_bare(house):
    """Tell, ascending, of all rooms the fewest hours that they have in full ledgers."""
    return {room: max(1, len(house.near(room)) - 1) for room in house.rooms()}


def find_threes(house):
    """Tell, ascending, the triples of inner rooms that lie on no one way."""
    inner = inner_rooms(house)
    return [three for three in combinations(inner, 3) if not on_one_way(house, three)]


def is_full_by(bare, threes, hours):
    """Tell by fewest hours and triples whether hours, all from 1 on, are full."""
    if any([hours[room] < bare[room] for room in bare]):
        return False
    return not any([all([hours[room] == bare[room] for room in three]) for three in threes])


def plain_house(bare, threes):
    """Tell the plain house with such fewest hours, ascending by rooms, and triples, None if no house has them."""
    rooms = list(bare)
    doors = list(combinations(rooms, 2))
    if len(rooms) > 2:
        wanted = wanted_doors(bare, threes)
        inner = [room for room in rooms if wanted[room] > 1]
        doors = doors_by_threes(inner, threes)
        doors += doors_to_leaves([room for room in rooms if wanted[room] == 1], inner, wanted, doors)
    # Doors less one than rooms, and no ring, join all.
    if len(doors) != len(rooms) - 1 or doors_fault(rooms, doors) is not None:
        return None
    house = House(rooms, doors)
    return house if find_bare(house) == bare and find_threes(house) == threes else None


def wanted_doors(bare, threes):
    """Tell of all rooms how many doors each has: of one hour some have one, some two."""
    least = [room for room in bare if bare[room] == 1]
    if threes:
        inner = [room for room in least if any([room in three for three in threes])]
    else:
        great = sum([bare[room] + 1 for room in bare if bare[room] > 1])
        inner = least[:max(0, 2 * (len(bare) - 1) - great - len(least))]
    return {room: bare[room] + 1 if bare[room] > 1 or room in inner else 1 for room in bare}


def doors_in_row(rooms):
    return [(rooms[index - 1], rooms[index]) for index in range(1, len(rooms))]


def doors_by_threes(inner, threes):
    """Tell doors between inner rooms that let just these triples lie on no one way, as far as any do.

    Rooms without a common triple have no branching room between them. Where no room is branching, all are one piece.
    """
    near = {room: nearest(inner, threes, room) for room in inner}
    branching = [room for room in inner if not are_all_near(near, near[room])]
    doors = []
    joined = {}
    for piece in near_lots([room for room in inner if room not in branching], near):
        outer = [room for room in branching if room in near[piece[0]]]
        doors += doors_in_row(outer[:1] + piece + outer[1:])
        joined[tuple(outer)] = True
    for pair in combinations(branching, 2):
        if pair[1] in near[pair[0]] and pair not in joined:
            doors.append(pair)
    return doors


def nearest(inner, threes, room):
    """Tell the inner rooms that are in no triple with room, it among them."""
    common = sorted(set([other for three in threes if room in three for other in three]))
    return [other for other in inner if other == room or other not in common]


def are_all_near(near, rooms):
    return all([other in near[one] for one, other in combinations(rooms, 2)])


def near_lots(rooms, near):
    """Tell the lots of rooms, ascending, that are near one another."""
    lots = [[other for other in rooms if other in near[room]] for room in rooms]
    return [lot for room, lot in zip(rooms, lots) if lot[0] == room]


def doors_to_leaves(leaves, inner, wanted, doors):
    """Tell doors from inner rooms to leaves, both in their order, so that each inner room has the doors it wants."""
    told = []
    at = 0
    for room in inner:
        lack = max(0, wanted[room] - len([door for door in doors if room in door]))
        told += [(room, leaf) for leaf in leaves[at:at + lack]]
        at += lack
    return told
