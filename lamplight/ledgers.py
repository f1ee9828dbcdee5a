"""Ledgers: of all rooms the hours that each was lit."""

from lamplight.carryings import need_carrying
from lamplight.errors import BadLedger, NotJoined
from lamplight.houses import first_parted, is_by_rooms, reach
from lamplight.kinds import is_number
from lamplight.otherhouses import part_with


def is_ledger(house, thing):
    if not is_by_rooms(house, thing) or not all([is_number(thing[room]) for room in thing]):
        return False
    return any([thing[room] > 0 for room in thing])


def ledger_of(house, carrying):
    need_carrying(house, carrying)
    return hours_of(house, carrying)


def lit_rooms(house, ledger):
    need_ledger(house, ledger)
    return find_lit(house, ledger)


def lit_parts(house, ledger):
    need_ledger(house, ledger)
    return find_parts(house, ledger)


def lit_house(house, ledger):
    need_ledger(house, ledger)
    lit = find_lit(house, ledger)
    parted = first_parted(house, lit)
    if parted is not None:
        raise NotJoined(parted)
    return part_with(house, lit)


def need_ledger(house, ledger):
    if not is_ledger(house, ledger):
        raise BadLedger(ledger)


def hours_of(house, rooms):
    """Tell, ascending, of all rooms how often they stand in a row of rooms."""
    hours = {room: 0 for room in house.rooms()}
    for room in rooms:
        hours[room] += 1
    return hours


def find_lit(house, hours):
    """Tell the rooms with hours, ascending."""
    return [room for room in house.rooms() if hours[room] > 0]


def find_parts(house, hours):
    """Tell the greatest lists of rooms with hours, ascending, between which doors lead through such rooms alone."""
    lit = find_lit(house, hours)
    parts = []
    for room in lit:
        part = reach(house, room, lit)
        # Each part is told once, by its least room.
        if part[0] == room:
            parts.append(part)
    return parts
