"""Carryings built from passes, and from the lists by which rooms are left."""

from lamplight.ways import climb, towards


def go_by(lists, first):
    """Tell the rooms from first on, going by the next entry of the present room's list till it has none left."""
    used = {room: 0 for room in lists}
    rooms = [first]
    room = first
    while used[room] < len(lists[room]):
        used[room] += 1
        room = lists[room][used[room] - 1]
        rooms.append(room)
    return rooms


def least_passes(house, first, last):
    """Tell the passes of a carrying from first to last that lights all rooms and goes through doors least often."""
    steps = towards(house, last)
    ahead = climb(steps, first)
    counted = {}
    for room, step in steps.items():
        if step is not None:
            counted[(room, step)] = 1
            counted[(step, room)] = 0 if room in ahead else 1
    return counted


def gone_again(counted, rooms):
    """Tell passes that go once more there and back through each door of a way."""
    more = dict(counted)
    for index in range(1, len(rooms)):
        more[(rooms[index - 1], rooms[index])] += 1
        more[(rooms[index], rooms[index - 1])] += 1
    return more


def carrying_by(house, hours, counted, first, last, early):
    """Tell a carrying from first to last with these hours and passes; early tells of some rooms the first leavings."""
    steps = towards(house, last)
    lists = {}
    for room in house.rooms():
        # A room other than last is left at last towards last.
        late = [steps[room]] if room != last else []
        lists[room] = put_in_order(leavings_by(house, hours, counted, first, room), early.get(room, []), late)
    return go_by(lists, first)


def leavings_by(house, hours, counted, first, room):
    """Tell the leavings of a room, in any order: what it is not left for is waited."""
    near = house.near(room)
    came = sum([counted[(other, room)] for other in near]) + (1 if room == first else 0)
    told = [room for _ in range(hours[room] - came)]
    for other in near:
        told += [other for _ in range(counted[(room, other)])]
    return told


def put_in_order(entries, early, late):
    """Tell entries with some of them put first, some last."""
    middle = list(entries)
    for entry in early + late:
        middle.remove(entry)
    return early + middle + late
