"""First and last rooms of the carryings with a ledger that lights all rooms."""

from itertools import combinations
from lamplight.building import carrying_by, least_passes
from lamplight.errors import BadLedger
from lamplight.houses import need_room
from lamplight.ledgers import is_ledger
from lamplight.onelaw import find_lacking, find_short, spare_hours
from lamplight.ways import climb, towards, way_between


def needs(house, first, last):
    need_room(house, first)
    need_room(house, last)
    return find_needs(house, first, last)


def carrying_between(house, ledger, first, last):
    need_ends(house, ledger, first, last)
    if first_lack(house, ledger, first, last) is not None:
        return None
    return carrying_by(house, ledger, least_passes(house, first, last), first, last, {})


def lacking(house, ledger, first, last):
    need_ends(house, ledger, first, last)
    return first_lack(house, ledger, first, last)


def ends(house, ledger):
    need_all_lit(house, ledger)
    return find_ends(house, ledger)


def count_ends(house, ledger):
    need_all_lit(house, ledger)
    return len(find_ends(house, ledger))


def lasts(house, ledger, first):
    need_all_lit(house, ledger)
    need_room(house, first)
    return find_lasts(house, spare_hours(house, ledger), first)


def barred(house, ledger, first):
    need_all_lit(house, ledger)
    need_room(house, first)
    spare = spare_hours(house, ledger)
    less = find_lacking(spare)
    if less:
        return ("less", less[0])
    if spare[first] == 0:
        return ("short", first)
    return first_fork(house, find_short(spare), first)


def back_at(house, ledger):
    need_all_lit(house, ledger)
    spare = spare_hours(house, ledger)
    return [room for room in house.rooms() if room in find_lasts(house, spare, room)]


def need_all_lit(house, ledger):
    if not is_ledger(house, ledger) or any([ledger[room] == 0 for room in ledger]):
        raise BadLedger(ledger)


def need_ends(house, ledger, first, last):
    need_all_lit(house, ledger)
    need_room(house, first)
    need_room(house, last)


def find_needs(house, first, last):
    between = way_between(house, first, last)[1:-1]
    told = {}
    for room in house.rooms():
        told[room] = len(house.near(room))
        if room in between:
            told[room] -= 1
        if room == first and room == last:
            told[room] += 1
    return told


def first_lack(house, hours, first, last):
    """Tell the first room with fewer hours than its need, with both, None if there is none."""
    wanted = find_needs(house, first, last)
    for room in wanted:
        if hours[room] < wanted[room]:
            return (room, hours[room], wanted[room])
    return None


def find_ends(house, hours):
    spare = spare_hours(house, hours)
    return [(first, last) for first in house.rooms() for last in find_lasts(house, spare, first)]


def find_lasts(house, spare, first):
    """Tell the last rooms that first can have, by the hours that all rooms have above doors less one."""
    short = find_short(spare)
    if first in short or find_lacking(spare):
        return []
    steps = towards(house, first)
    # How many short rooms are on the way from first to each room: all have to be within that to the last one.
    met = {}
    for room in steps:
        ahead = 0 if room == first else met[steps[room]]
        met[room] = ahead + (1 if room in short else 0)
    told = [room for room in house.rooms() if met[room] == len(short) and spare[room] > 0]
    # Who comes back to first stays there once more.
    return [room for room in told if room != first or spare[room] > 1]


def first_fork(house, short, first):
    """Tell the first two short rooms neither of which lies on the way from first to the other, None if none do."""
    steps = towards(house, first)
    for one, other in combinations(short, 2):
        if one not in climb(steps, other) and other not in climb(steps, one):
            return ("fork", one, other)
    return None
