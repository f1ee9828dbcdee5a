"""Boxes: hours that are not known for sure, and the possible ledgers in them."""

from lamplight.errors import BadBox
from lamplight.houses import is_by_rooms
from lamplight.kinds import is_number, is_row, need_positive
from lamplight.ledgers import is_ledger, need_ledger
from lamplight.onelaw import first_apart, holds
from lamplight.otherhouses import part_with
from lamplight.ways import climb, need_some, towards
from lamplight.wholeboxes import base_hours, best_gain, tight_rooms


def is_possible(house, box, thing):
    need_box(house, box)
    if not is_ledger(house, thing):
        return False
    if not all([box[room][0] <= thing[room] <= box[room][1] for room in house.rooms()]):
        return False
    return holds(house, thing)


def wiped(house, ledger, some, most):
    need_ledger(house, ledger)
    need_some(house, some)
    need_positive(most)
    return {room: (0, most) if room in some else (ledger[room], ledger[room]) for room in house.rooms()}


def needed_rooms(house, box):
    need_box(house, box)
    return find_needed(house, box, [])


def box_fault(house, box):
    need_box(house, box)
    return find_fault(house, box, find_needed(house, box, []))


def some_ledger(house, box):
    need_box(house, box)
    needed = find_needed(house, box, [])
    if find_fault(house, box, needed) is not None:
        return None
    if not needed:
        # One lit room is a ledger of a carrying, and some room may be lit.
        needed = [room for room in house.rooms() if box[room][1] > 0][:1]
    inside = part_with(house, needed)
    short = best_gain(inside, box)
    hours = {room: 0 for room in house.rooms()}
    for room in needed:
        hours[room] = base_hours(inside, box, room) - (1 if room in short else 0)
    return hours


def can_light(house, box):
    need_box(house, box)
    # More needed rooms never mend a fault, so with one there is none that can be lit.
    return [room for room in house.rooms() if find_fault(house, box, find_needed(house, box, [room])) is None]


def is_box(house, thing):
    """Tell of any object whether it is a dict from just all rooms to pairs of least and most hours, not all 0."""
    if not is_by_rooms(house, thing) or not all([is_span(thing[room]) for room in thing]):
        return False
    return any([thing[room][1] > 0 for room in thing])


def is_span(thing):
    """Tell of any object whether it is a pair of numbers, the second not less than the first."""
    if not is_row(thing) or len(thing) != 2:
        return False
    return is_number(thing[0]) and is_number(thing[1]) and thing[0] <= thing[1]


def need_box(house, box):
    if not is_box(house, box):
        raise BadBox(box)


def find_needed(house, box, more):
    """Tell the rooms on ways between more rooms and those that must be lit, these among them, ascending."""
    asked = [room for room in house.rooms() if box[room][0] > 0] + more
    if not asked:
        return []
    steps = towards(house, asked[0])
    found = {}
    for room in asked:
        for other in climb(steps, room):
            found[other] = True
    return sorted(found)


def find_fault(house, box, needed):
    """Tell why needed rooms cannot all be lit, None if they can, or there are none."""
    if not needed:
        return None
    inside = part_with(house, needed)
    for room in needed:
        if box[room][1] < max(len(inside.near(room)) - 1, 1):
            return ("few", room)
    return first_apart(inside, tight_rooms(inside, box))
