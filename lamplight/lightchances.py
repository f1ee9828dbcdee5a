"""Chances of the hours at which rooms are first lit."""

from lamplight.errors import SameRoom
from lamplight.evenly import chances_by, fraction, mean_by, need_drawn
from lamplight.houses import need_room
from lamplight.hourlots import Used
from lamplight.ledgers import find_lit


def light_chances(house, ledger, place):
    need_drawn(house, ledger)
    need_room(house, place)
    if ledger[place] == 0:
        return {}
    used = Used(house, ledger)
    return chances_by(count_by_light(used, used.lots({}), place))


def mean_light(house, ledger):
    need_drawn(house, ledger)
    used = Used(house, ledger)
    lots = used.lots({})
    return {room: mean_by(count_by_light(used, lots, room)) for room in find_lit(house, ledger)}


def ahead_chance(house, ledger, one, other):
    need_drawn(house, ledger)
    need_room(house, one)
    need_room(house, other)
    if one == other:
        raise SameRoom(other)
    if ledger[one] == 0 or ledger[other] == 0:
        return (0, 1) if ledger[one] == 0 else (1, 1)
    used = Used(house, ledger)
    lots = used.lots({})
    ahead = 0
    for each in lots:
        ahead += sum([each[state] for state in first_states(used, each, one) if used.many(state[0], other) == 0])
    return fraction(ahead, sum(lots[0].values()))


def first_states(used, lots, place):
    """Tell the pairs (used, room) of an hour at which a place is first lit."""
    return [state for state in lots if state[1] == place and used.many(state[0], place) == 1]


def count_by_light(used, lots, place):
    """Tell, by the hour at which a place is first lit, how many carryings there are."""
    return {hour: sum([each[state] for state in first_states(used, each, place)]) for hour, each in enumerate(lots)}
