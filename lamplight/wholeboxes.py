"""Houses all of whose rooms are to be lit, with hours from a least to a most: what their doors ask of them."""

from lamplight.ways import on_one_way, towards, way_between


def base_hours(house, box, room):
    """Tell the least hours that a room can have whatever the others have."""
    return max(box[room][0], len(house.near(room)), 1)


def tight_rooms(house, box):
    """Tell the rooms that can have no more than their doors less one, ascending."""
    return [room for room in house.rooms() if box[room][1] == len(house.near(room)) - 1]


def gain_rooms(house, box):
    """Tell the rooms that can have their doors less one, ascending."""
    told = []
    for room in house.rooms():
        doors = len(house.near(room))
        if doors > 1 and box[room][0] <= doors - 1 <= box[room][1]:
            told.append(room)
    return told


def best_gain(house, box):
    """Tell the most gain rooms that lie on one way with all tight rooms, which do so: in the order of the way."""
    tight = tight_rooms(house, box)
    gain = gain_rooms(house, box)
    worth = {room: 1 if room in gain else 0 for room in house.rooms()}
    for room in tight:
        # More than all others together, so that none is left out.
        worth[room] = len(house) + 1
    return [room for room in worthiest_way(house, worth) if room in gain]


def worthiest_way(house, worth):
    """Tell a way whose rooms have most worth together, none having less than 0."""
    one = worthiest_end(house, worth, house.rooms()[0])
    other = worthiest_end(house, worth, one)
    return way_between(house, one, other)


def worthiest_end(house, worth, start):
    """Tell the end of a way of most worth from start."""
    steps = towards(house, start)
    total = {}
    for room in steps:
        total[room] = worth[room] + (0 if room == start else total[steps[room]])
    return max(total, key=lambda end: total[end])


def short_in_some(house, box):
    """Tell the gain rooms that lie on one way with all tight rooms, ascending."""
    tight = tight_rooms(house, box)
    return [room for room in gain_rooms(house, box) if on_one_way(house, tight + [room])]
