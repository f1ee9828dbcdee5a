"""Chances of the carryings that keep what was seen: in which rooms the lamp was met at some hours."""

from lamplight.counting import count_all_of
from lamplight.errors import BadSeen, NeverSo
from lamplight.evenly import fraction, need_drawn
from lamplight.hourchances import chances_of_lots, is_hour, need_hour
from lamplight.hourlots import Used


def seen_chance(house, ledger, seen):
    need_drawn(house, ledger)
    need_seen(house, ledger, seen)
    return fraction(sum(last_lots(house, ledger, seen).values()), count_all_of(house, ledger))


def hour_given(house, ledger, seen, hour):
    need_drawn(house, ledger)
    need_seen(house, ledger, seen)
    lots = need_lots(house, ledger, seen)
    need_hour(ledger, hour)
    return chances_of_lots(house, lots[hour])


def last_given(house, ledger, seen):
    need_drawn(house, ledger)
    need_seen(house, ledger, seen)
    lots = need_lots(house, ledger, seen)
    return chances_of_lots(house, lots[-1])


def is_seen(house, ledger, thing):
    """Tell of any object whether it is a dict from numbers below all hours to rooms."""
    return isinstance(thing, dict) and all([is_hour(ledger, hour) and house.has(thing[hour]) for hour in thing])


def need_seen(house, ledger, seen):
    if not is_seen(house, ledger, seen):
        raise BadSeen(seen)


def last_lots(house, ledger, seen):
    return Used(house, ledger).ways_ahead(seen)[-1]


def need_lots(house, ledger, seen):
    """Tell the lots of all hours, of the carryings that keep seen; refuse it where none does."""
    if not last_lots(house, ledger, seen):
        raise NeverSo()
    return Used(house, ledger).lots(seen)
