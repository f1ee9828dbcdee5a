"""Marks of rooms: from which room each was first come to, to which one the lamp last went from it."""

from lamplight.carryings import need_carrying
from lamplight.errors import BadCarrying, BadMarks
from lamplight.houses import is_by_rooms


def entries(house, carrying):
    need_lighting(house, carrying)
    told = {room: None for room in house.rooms()}
    seen = {carrying[0]: True}
    for ahead, room in zip(carrying, carrying[1:]):
        if room not in seen:
            seen[room] = True
            told[room] = ahead
    return told


def stamps(house, carrying):
    need_lighting(house, carrying)
    told = {room: None for room in house.rooms()}
    for ahead, room in zip(carrying, carrying[1:]):
        if ahead != room:
            told[ahead] = room
    return told


def unused_door(house, marks):
    need_marks(house, marks)
    return first_unused(house, marks)


def first_by_entries(house, marks):
    need_marks(house, marks)
    begun = [room for room in house.rooms() if marks[room] is None]
    # All doors being used, one room less than all has a mark, so that all lead to the other.
    return begun[0] if begun and first_unused(house, marks) is None else None


def lasts_by_stamps(house, marks):
    need_marks(house, marks)
    return find_stamped_lasts(house, marks)


def need_lighting(house, carrying):
    """Refuse what is no carrying that lights all rooms."""
    need_carrying(house, carrying)
    if not all([room in carrying for room in house.rooms()]):
        raise BadCarrying(0)


def is_marks(house, thing):
    """Tell of any object whether it is a dict from just all rooms to a room beside it, or None."""
    if not is_by_rooms(house, thing):
        return False
    return all([thing[room] is None or thing[room] in house.near(room) for room in house.rooms()])


def need_marks(house, marks):
    if not is_marks(house, marks):
        raise BadMarks(marks)


def first_unused(house, marks):
    for one, other in house.doors():
        if marks[one] != other and marks[other] != one:
            return (one, other)
    return None


def find_stamped_lasts(house, marks):
    if first_unused(house, marks) is not None:
        return []
    kept = [room for room in house.rooms() if marks[room] is None]
    if kept:
        # All others lead to it. Where there are more rooms than one beside it, it was left for one of them.
        return kept if len(house.near(kept[0])) < 2 else []
    return [room for room in house.rooms() if marks[marks[room]] == room]
