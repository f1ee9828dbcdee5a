"""The hours that rooms can have in the possible ledgers of a box that leaves no room dark."""

from lamplight.boxes import find_fault, is_box
from lamplight.errors import BadBox, NotPossible
from lamplight.houses import need_room
from lamplight.wholeboxes import base_hours, best_gain, short_in_some, tight_rooms


def room_hours(house, box, room):
    need_whole(house, box)
    need_room(house, room)
    least = base_hours(house, box, room)
    if room in short_in_some(house, box):
        least = len(house.near(room)) - 1
    return (least, box[room][1])


def shortness(house, box):
    need_whole(house, box)
    return (tight_rooms(house, box), short_in_some(house, box))


def sums_between(house, box):
    need_whole(house, box)
    least = sum([base_hours(house, box, room) for room in house.rooms()]) - len(best_gain(house, box))
    return (least, sum([box[room][1] for room in house.rooms()]))


def need_lit_box(house, box):
    if not is_box(house, box) or any([box[room][0] == 0 for room in box]):
        raise BadBox(box)


def need_whole(house, box):
    need_lit_box(house, box)
    if find_fault(house, box, house.rooms()) is not None:
        raise NotPossible()
