"""Counters of doors: how often each was gone through, both ways together."""

from lamplight.building import carrying_by
from lamplight.ends import need_all_lit
from lamplight.entrystamps import need_lighting
from lamplight.errors import BadCounted
from lamplight.kinds import is_positive
from lamplight.ways import towards


def counters(house, carrying):
    need_lighting(house, carrying)
    told = {door: 0 for door in house.doors()}
    for ahead, room in zip(carrying, carrying[1:]):
        if ahead != room:
            told[(min(ahead, room), max(ahead, room))] += 1
    return told


def odd_rooms(house, counted):
    need_counted(house, counted)
    return find_odd(house, counted)


def counted_ends(house, counted):
    need_counted(house, counted)
    return find_counted_ends(house, counted)


def ends_by_counters(house, ledger, counted):
    need_all_lit(house, ledger)
    need_counted(house, counted)
    return find_ends_with(house, ledger, counted)


def counted_carrying(house, ledger, counted):
    need_all_lit(house, ledger)
    need_counted(house, counted)
    pairs = find_ends_with(house, ledger, counted)
    if not pairs:
        return None
    first, last = pairs[0]
    return carrying_by(house, ledger, passes_by(house, counted, last), first, last, {})


def is_counted_some(house, thing):
    """Tell of any object whether it is a dict from some doors, as the house has them, to integers from 1 on."""
    if not isinstance(thing, dict):
        return False
    there = [door for door in house.doors() if door in thing]
    return len(there) == len(thing) and all([is_positive(thing[door]) for door in there])


def need_counted(house, counted):
    if not is_counted_some(house, counted) or len(counted) != len(house) - 1:
        raise BadCounted(counted)


def counter_of(counted, one, other):
    return counted[(min(one, other), max(one, other))]


def counted_at(house, counted, room):
    """Tell the counters of all doors of a room together."""
    return sum([counter_of(counted, room, other) for other in house.near(room)])


def find_odd(house, counted):
    # An odd number of odd ones is odd in all.
    return [room for room in house.rooms() if counted_at(house, counted, room) & 1]


def find_counted_ends(house, counted):
    odd = find_odd(house, counted)
    if not odd:
        return [(room, room) for room in house.rooms()]
    return [(odd[0], odd[1]), (odd[1], odd[0])] if len(odd) == 2 else []


def find_ends_with(house, hours, counted):
    told = []
    through = {room: counted_at(house, counted, room) for room in house.rooms()}
    for first, last in find_counted_ends(house, counted):
        ends = [first, last]
        if all([through[room] + ends.count(room) <= 2 * hours[room] for room in through]):
            told.append((first, last))
    return told


def passes_by(house, counted, last):
    """Tell the passes to last that go through each door as often as counters tell."""
    told = {}
    for room, step in towards(house, last).items():
        if step is not None:
            many = counter_of(counted, room, step)
            # The odd ones are on the way, and gone through once more towards last.
            told[(room, step)] = (many + 1) // 2
            told[(step, room)] = many // 2
    return told
