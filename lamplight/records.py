"""Records: what a keeper told of ledgers, and the houses that fit it."""

from itertools import combinations
from lamplight.errors import BadRecords
from lamplight.keepers import need_rooms
from lamplight.kinds import is_positive, is_row
from lamplight.shapes import find_shapes


def fitting(rooms, records):
    need_records(rooms, records)
    return [shape.plain for shape in fitting_shapes(rooms, records)]


def sure_doors(rooms, records):
    need_records(rooms, records)
    found = doors_of_houses(rooms, records)
    names = sorted(rooms)
    return [pair for pair in combinations(names, 2) if all([pair in doors for doors in found])]


def possible_doors(rooms, records):
    need_records(rooms, records)
    return sorted(set([door for doors in doors_of_houses(rooms, records) for door in doors]))


def hours_between(rooms, records):
    need_records(rooms, records)
    shapes = fitting_shapes(rooms, records)
    told = {}
    if shapes:
        for room in sorted(rooms):
            hours = [shape.bare[room] for shape in shapes]
            told[room] = (min(hours), max(hours))
    return told


def record_clash(rooms, records):
    need_records(rooms, records)
    shapes = find_shapes(sorted(rooms))
    fits = [[shape.is_full(ledger) == truth for shape in shapes] for ledger, truth in records]
    lots = [[]]
    for _ in fits:
        # All lists of one index more, ascending as lists compare.
        lots = [lot + [index] for lot in lots for index in range(lot[-1] + 1 if lot else 0, len(fits))]
        for lot in lots:
            if not any([all([fits[index][at] for index in lot]) for at in range(len(shapes))]):
                return lot
    return None


def need_records(rooms, records):
    need_rooms(rooms)
    if not is_row(records):
        raise BadRecords(0)
    for index, record in enumerate(records):
        if not is_record(rooms, record):
            raise BadRecords(index)


def is_record(rooms, thing):
    """Tell of any object whether it is a pair of a ledger of rooms without a dark one, and a truth."""
    if not is_row(thing) or len(thing) != 2 or not isinstance(thing[1], bool):
        return False
    return is_lit_ledger(rooms, thing[0])


def is_lit_ledger(rooms, thing):
    """Tell of any object whether it is a dict from just all rooms to integers from 1 on."""
    if not isinstance(thing, dict) or len(thing) != len(rooms):
        return False
    return all([room in thing and is_positive(thing[room]) for room in rooms])


def fitting_shapes(rooms, records):
    told = []
    for shape in find_shapes(sorted(rooms)):
        if all([shape.is_full(ledger) == truth for ledger, truth in records]):
            told.append(shape)
    return told


def doors_of_houses(rooms, records):
    """Tell the lists of doors of all houses that fit."""
    return [house.doors() for shape in fitting_shapes(rooms, records) for house in shape.houses]
