"""Boxes that leave no room dark, of which the hours of some lots of rooms are known together."""

from lamplight.errors import BadLots, BadSums
from lamplight.kinds import is_number, is_row
from lamplight.roomhours import need_whole
from lamplight.ways import has_all, leaf_ways
from lamplight.wholeboxes import base_hours, gain_rooms, tight_rooms


def ledger_with(house, box, lots, sums):
    need_sums(house, box, lots, sums)
    if first_much(box, lots, sums) is not None:
        return None
    for through in tight_ways(house, box):
        least = least_along(house, box, through)
        if first_less(least, lots, sums) is None:
            return filled_up(box, least, lots, sums)
    return None


def lots_fault(house, box, lots, sums):
    need_sums(house, box, lots, sums)
    much = first_much(box, lots, sums)
    if much is not None:
        return ("much", much)
    told = []
    for through in tight_ways(house, box):
        less = first_less(least_along(house, box, through), lots, sums)
        if less is None:
            return None
        told.append((through[0], through[-1], less))
    return ("lack", told)


def need_sums(house, box, lots, sums):
    need_whole(house, box)
    index = lots_wrong(house, lots)
    if index is not None:
        raise BadLots(index)
    index = sums_wrong(sums, len(lots))
    if index is not None:
        raise BadSums(index)


def lots_wrong(house, thing):
    """Tell the index of the first thing that is no list of rooms that did not stand before, None if there is none."""
    if not is_row(thing):
        return 0
    seen = {}
    for index, lot in enumerate(thing):
        if not is_row(lot):
            return index
        for room in lot:
            if not house.has(room) or room in seen:
                return index
            seen[room] = True
    return None


def sums_wrong(thing, many):
    """Tell the index of the first thing that keeps it from being so many numbers, None if there is none."""
    if not is_row(thing):
        return 0
    for index, number in enumerate(thing):
        if index >= many or not is_number(number):
            return index
    return len(thing) if len(thing) < many else None


def tight_ways(house, box):
    """Tell the ways between leaves that have all tight rooms."""
    tight = tight_rooms(house, box)
    return [through for through in leaf_ways(house) if has_all(through, tight)]


def least_along(house, box, through):
    """Tell, ascending, the least hours of all rooms of ledgers whose short rooms lie on this way."""
    gain = [room for room in gain_rooms(house, box) if room in through]
    return {room: base_hours(house, box, room) - (1 if room in gain else 0) for room in house.rooms()}


def first_much(box, lots, sums):
    """Tell the index of the first sum that is more than its lot can have, None if there is none."""
    for index, lot in enumerate(lots):
        if sums[index] > sum([box[room][1] for room in lot]):
            return index
    return None


def first_less(least, lots, sums):
    """Tell the index of the first sum that is less than the least hours of its lot, None if there is none."""
    for index, lot in enumerate(lots):
        if sums[index] < sum([least[room] for room in lot]):
            return index
    return None


def filled_up(box, least, lots, sums):
    """Tell a ledger with least hours at least in which each lot has its sum, neither too much nor too little."""
    told = dict(least)
    for lot, whole in zip(lots, sums):
        over = whole - sum([least[room] for room in lot])
        for room in lot:
            more = min(over, box[room][1] - least[room])
            told[room] += more
            over -= more
    return told
