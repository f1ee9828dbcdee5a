"""Houses made of other houses."""

from lamplight.errors import BadName, BadNames, BadSome, CommonRoom, NotJoined
from lamplight.houses import House, first_parted, is_by_rooms, need_room
from lamplight.kinds import is_name
from lamplight.ways import need_some


def part_of(house, some):
    need_some(house, some)
    if len(some) == 0:
        raise BadSome(0)
    parted = first_parted(house, some)
    if parted is not None:
        raise NotJoined(parted)
    return part_with(house, some)


def built_on(house, room, name):
    need_room(house, room)
    if not is_name(name) or house.has(name):
        raise BadName(name)
    return House(house.rooms() + [name], house.doors() + [(room, name)])


def joined_by(one, other, room, far):
    need_room(one, room)
    need_room(other, far)
    common = [name for name in one.rooms() if other.has(name)]
    if common:
        raise CommonRoom(common[0])
    return House(one.rooms() + other.rooms(), one.doors() + other.doors() + [(room, far)])


def renamed(house, names):
    if not are_names(house, names):
        raise BadNames(names)
    rooms = [names[room] for room in house.rooms()]
    return House(rooms, [(names[one], names[other]) for one, other in house.doors()])


def part_with(house, some):
    """Tell the house of some rooms that are known to hang together."""
    doors = [(one, other) for one, other in house.doors() if one in some and other in some]
    return House(some, doors)


def are_names(house, thing):
    """Tell of any object whether it is a dict from just all rooms to unlike names."""
    if not is_by_rooms(house, thing) or not all([is_name(thing[room]) for room in thing]):
        return False
    return len(set(list(thing.values()))) == len(house)
