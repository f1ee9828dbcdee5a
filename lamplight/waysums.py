"""Worth of rooms summed up along ways: numbers at pairs of rooms that show how much ways can have at most."""

from lamplight.carryings import is_passes, pairs_beside
from lamplight.ways import pairs_inward


def find_heights(house, worth, number):
    """Tell the least heights below a number, ascending, None if some way has as much worth."""
    least = least_ahead(house, worth)
    return {pair: least[pair] for pair in pairs_beside(house)} if are_below(house, worth, number, least) else None


def keeps_heights(house, worth, number, thing):
    """Tell of any object whether it is heights below a number."""
    return is_passes(house, thing) and leads_ahead(house, worth, thing) and are_below(house, worth, number, thing)


def least_ahead(house, worth):
    """Tell of each pair (room, other) the greatest worth of a way that begins at other, away from room."""
    told = {}
    for room, other in pairs_inward(house):
        told[(room, other)] = worth[other] + max(numbers_on(house, told, room, other), default=0)
    return told


def leads_ahead(house, worth, heights):
    """Tell whether the number of each pair is enough for its second room with what any pair leads on to from there."""
    for room, other in pairs_beside(house):
        further = max(numbers_on(house, heights, room, other), default=0)
        if heights[(room, other)] < worth[other] + further:
            return False
    return True


def numbers_on(house, heights, room, other):
    """Tell the numbers of the pairs that lead on from other, not back to room."""
    return [heights[(other, third)] for third in house.near(other) if third != room]


def are_below(house, worth, number, heights):
    """Tell whether at each room its worth and the two greatest numbers of its pairs are together below a number."""
    for room in house.rooms():
        numbers = sorted([heights[(room, other)] for other in house.near(room)])
        if worth[room] + sum(numbers[-2:]) >= number:
            return False
    return True
