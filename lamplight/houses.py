"""Houses without rings: rooms, and doors that join them all in just one way."""

from lamplight.errors import BadDoors, BadRooms, NoRoom, NotJoined
from lamplight.kinds import PackageObject, is_name, is_row


class House(PackageObject):
    """A house that never changes: what it tells are copies."""

    def __init__(self, rooms, doors):
        index = rooms_fault(rooms)
        if index is not None:
            raise BadRooms(index)
        index = doors_fault(rooms, doors)
        if index is not None:
            raise BadDoors(index)
        self._rooms = sorted(rooms)
        self._doors = sorted([tuple(sorted(door)) for door in doors])
        self._near = rooms_by_doors(self._rooms, self._doors)
        parted = first_parted(self, self._rooms)
        if parted is not None:
            raise NotJoined(parted)

    def rooms(self):
        return list(self._rooms)

    def doors(self):
        return list(self._doors)

    def __len__(self):
        return len(self._rooms)

    def __eq__(self, other):
        return isinstance(other, House) and self._rooms == other._rooms and self._doors == other._doors

    def has(self, thing):
        """Tell of any object whether it is a room."""
        return isinstance(thing, str) and thing in self._near

    def near(self, room):
        """Tell what beside tells, of what is known to be a room."""
        return list(self._near[room])


def beside(house, room):
    need_room(house, room)
    return house.near(room)


def need_room(house, thing):
    if not house.has(thing):
        raise NoRoom(thing)


def rooms_fault(rooms):
    """Tell the index of the first thing that is no name or stood before, None if there is none."""
    if not is_row(rooms) or len(rooms) == 0:
        return 0
    seen = {}
    for index, room in enumerate(rooms):
        if not is_name(room) or room in seen:
            return index
        seen[room] = True
    return None


def doors_fault(rooms, doors):
    """Tell the index of the first thing that is no door of rooms or closes a ring, None if there is none."""
    if not is_row(doors):
        return 0
    leaders = {room: room for room in rooms}
    for index, door in enumerate(doors):
        if not is_pair_of(leaders, door):
            return index
        one = leader_of(leaders, door[0])
        other = leader_of(leaders, door[1])
        if one == other:
            return index
        leaders[one] = other
    return None


def is_pair_of(rooms, thing):
    """Tell of any object whether it is a pair of unlike ones of a dict of rooms."""
    if not is_row(thing) or len(thing) != 2:
        return False
    return all([isinstance(room, str) and room in rooms for room in thing]) and thing[0] != thing[1]


def leader_of(leaders, room):
    """Tell the one room that stands for all that doors lead to from this one."""
    while leaders[room] != room:
        # Leading past the next room keeps the rows of leaders short.
        leaders[room] = leaders[leaders[room]]
        room = leaders[room]
    return room


def is_by_rooms(house, thing):
    """Tell of any object whether it is a dict from just all rooms."""
    return isinstance(thing, dict) and len(thing) == len(house) and all([room in thing for room in house.rooms()])


def rooms_by_doors(rooms, doors):
    """Tell of each room the rooms beside it, ascending as rooms and doors are."""
    near = {room: [] for room in rooms}
    for one, other in doors:
        near[one].append(other)
        near[other].append(one)
    return near


def reach(house, start, inside):
    """Tell, ascending, the rooms that doors between rooms of inside lead to from start, start with them."""
    allowed = {room: True for room in inside}
    found = {start: True}
    waiting = [start]
    while waiting:
        for other in house.near(waiting.pop()):
            if other in allowed and other not in found:
                found[other] = True
                waiting.append(other)
    return sorted(found)


def first_parted(house, some):
    """Tell the first of some rooms to which no doors between them lead from the least, None if there is none."""
    joined = reach(house, min(some), some)
    return min([room for room in some if room not in joined], default=None)
