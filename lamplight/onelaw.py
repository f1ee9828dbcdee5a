"""The rule: which ledgers are some carrying's, and papers against the others."""

from itertools import combinations
from lamplight.carryings import carrying_fault
from lamplight.houses import reach
from lamplight.kinds import is_row
from lamplight.ledgers import find_lit, hours_of, need_ledger
from lamplight.ways import climb, doors_off, has_all, on_one_way, towards, way_between


def lacking_rooms(house, ledger):
    need_ledger(house, ledger)
    return find_lacking(spare_hours(house, ledger))


def short_rooms(house, ledger):
    need_ledger(house, ledger)
    return find_short(spare_hours(house, ledger))


def holds(house, ledger):
    need_ledger(house, ledger)
    spare = spare_hours(house, ledger)
    return is_lit_joined(house, ledger) and not find_lacking(spare) and on_one_way(house, find_short(spare))


def paper_of(house, ledger):
    need_ledger(house, ledger)
    paper = first_dark(house, ledger)
    if paper is not None:
        return paper
    spare = spare_hours(house, ledger)
    lacking = find_lacking(spare)
    if lacking:
        return ("lacks", lacking[0])
    return first_apart(house, find_short(spare))


def is_paper(house, ledger, thing):
    need_ledger(house, ledger)
    if not is_row(thing) or len(thing) == 0:
        return False
    word = thing[0]
    rooms = thing[1:]
    if not all([house.has(room) for room in rooms]):
        return False
    if word == "dark":
        return len(rooms) == 3 and is_dark_between(house, ledger, rooms)
    spare = spare_hours(house, ledger)
    if word == "lacks":
        return len(rooms) == 1 and rooms[0] in find_lacking(spare)
    return word == "apart" and len(rooms) == 3 and is_apart(house, find_short(spare), rooms)


def claim_fault(house, ledger, thing):
    need_ledger(house, ledger)
    index = carrying_fault(house, thing)
    if index is not None:
        return ("step", index)
    hours = hours_of(house, thing)
    for room in house.rooms():
        if hours[room] != ledger[room]:
            return ("hours", room)
    return None


def spare_hours(house, hours):
    """Tell of the lit rooms, ascending, what their hours are above lit doors less one: 0 is short, less lacks."""
    spare = {}
    for room in find_lit(house, hours):
        lit_doors = len([other for other in house.near(room) if hours[other] > 0])
        spare[room] = hours[room] - (lit_doors - 1)
    return spare


def find_lacking(spare):
    return [room for room in spare if spare[room] < 0]


def find_short(spare):
    return [room for room in spare if spare[room] == 0]


def is_lit_joined(house, hours):
    """Tell whether no dark room lies between lit ones, of which there are some."""
    lit = find_lit(house, hours)
    return reach(house, lit[0], lit) == lit


def first_dark(house, ledger):
    """Tell the first paper with dark, None if there is none."""
    lit = find_lit(house, ledger)
    # If lit rooms are parted by a dark one, then the least of them is from another one.
    steps = towards(house, lit[0])
    papers = []
    for other in lit:
        papers += [("dark", lit[0], room, other) for room in climb(steps, other) if ledger[room] == 0]
    return min(papers, default=None)


def first_apart(house, short):
    """Tell the first paper with apart, None if all short rooms lie on one way."""
    if on_one_way(house, short):
        return None
    off = {room: doors_off(house, room) for room in short}
    for one, other, third in combinations(short, 3):
        if not is_way_of_three(off[one][other], off[other][third], off[one][third]):
            return ("apart", one, other, third)
    return None


def is_way_of_three(near, far, across):
    """Tell by how many doors they are off one another whether three rooms lie on one way."""
    return near + far + across == 2 * max(near, far, across)


def is_dark_between(house, ledger, rooms):
    one, between, other = rooms
    if ledger[one] == 0 or ledger[other] == 0 or one >= other:
        return False
    return ledger[between] == 0 and between in way_between(house, one, other)


def is_apart(house, short, rooms):
    one, other, third = rooms
    if one >= other or other >= third or not has_all(short, rooms):
        return False
    return not on_one_way(house, rooms)
