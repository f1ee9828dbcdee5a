"""Chances of the rooms in which the lamp is at each hour."""

from lamplight.errors import BadHour
from lamplight.evenly import chances_by, fraction, need_drawn
from lamplight.houses import need_room
from lamplight.hourlots import Used, sum_where
from lamplight.kinds import is_number


def hour_chances(house, ledger, hour):
    need_drawn(house, ledger)
    need_hour(ledger, hour)
    return chances_of_lots(house, Used(house, ledger).lots({})[hour])


def room_chances(house, ledger, place):
    need_drawn(house, ledger)
    need_room(house, place)
    return [fraction(sum_where(lots, place), sum(lots.values())) for lots in Used(house, ledger).lots({})]


def is_hour(ledger, thing):
    """Tell of any object whether it is a number below all hours together."""
    return is_number(thing) and thing < sum(ledger.values())


def need_hour(ledger, hour):
    if not is_hour(ledger, hour):
        raise BadHour(hour)


def chances_of_lots(house, lots):
    """Tell the chances of the rooms in which the lamp can be at an hour, ascending, by its lots."""
    return chances_by({room: sum_where(lots, room) for room in house.rooms()})
