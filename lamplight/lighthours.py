"""Hours of first light: carryings that first light rooms at just these hours; and the hours of last light."""

from lamplight.carryings import need_carrying
from lamplight.errors import BadHours
from lamplight.kinds import is_number
from lamplight.ledgers import lit_house
from lamplight.ways import way_between


def last_lit(house, carrying):
    need_carrying(house, carrying)
    told = {}
    for hour, room in enumerate(carrying):
        # Taken out and put in again a room stands behind all that were last lit earlier.
        told.pop(room, None)
        told[room] = hour
    return told


def hours_fault(house, hours):
    need_hours(house, hours)
    return first_fault(house, hours)


def carrying_by_hours(house, hours):
    need_hours(house, hours)
    if first_fault(house, hours) is not None:
        return None
    row = []
    for room in by_hours(hours):
        ahead = way_between(house, row[-1], room)[1:] if row else [room]
        waited = hours[room] + 1 - len(row) - len(ahead)
        row += [row[-1] for _ in range(waited)] + ahead
    return row


def carrying_with(house, ledger, hours):
    inside = lit_house(house, ledger)
    need_hours(house, hours)
    if sorted(hours) != inside.rooms():
        return None
    return find_row(inside, [ledger[room] for room in inside.rooms()], hours)


def need_hours(house, thing):
    if not is_hours(house, thing):
        raise BadHours(thing)


def is_hours(house, thing):
    """Tell of any object whether it is a dict from one or more rooms to unlike numbers, one of them 0."""
    if not isinstance(thing, dict) or not all([house.has(room) and is_number(thing[room]) for room in thing]):
        return False
    given = list(thing.values())
    return 0 in given and len(set(given)) == len(given)


def by_hours(hours):
    return sorted(hours, key=lambda room: hours[room])


def first_fault(house, hours):
    """Tell what is wrong with hours first: a room beside none that is lit earlier, or two rooms too far off."""
    order = by_hours(hours)
    for at in range(1, len(order)):
        if not any([other in order[:at] for other in house.near(order[at])]):
            return ("alone", order[at])
    for at in range(1, len(order)):
        one, other = order[at - 1], order[at]
        if len(way_between(house, one, other)) - 1 > hours[other] - hours[one]:
            return ("soon", one, other)
    return None


def find_row(inside, ledger, hours):
    """Tell a carrying with the hours of a ledger, in the order of rooms, and hours of first light, None if none has.

    All that the lamp can have come to is gone through hour by hour: where it is, and which hours are left of the rooms.
    """
    rooms = inside.rooms()
    lit_at = {hours[room]: room for room in rooms}
    first = lit_at[0]
    ahead = {(first, less_one(ledger, rooms.index(first))): [first]}
    for hour in range(1, sum(ledger)):
        further = {}
        for (room, left), row in ahead.items():
            for other in [room] + inside.near(room):
                at = rooms.index(other)
                # At an hour of first light the lamp is there, at others where it was before.
                if left[at] > 0 and lit_at.get(hour, other) == other and hours[other] <= hour:
                    further[(other, less_one(left, at))] = row + [other]
        ahead = further
    told = list(ahead.values())
    return told[0] if told else None


def less_one(left, at):
    """Tell hours left as a tuple, with one less in one place."""
    return tuple([many - 1 if place == at else many for place, many in enumerate(left)])
