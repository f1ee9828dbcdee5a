"""How many carryings a ledger has."""

from math import comb
from lamplight.carryings import stays_by
from lamplight.errors import NoDoor
from lamplight.houses import need_room
from lamplight.ledgers import find_lit, need_ledger
from lamplight.ways import towards


def count_with(house, ledger, counted, first, last):
    need_ledger(house, ledger)
    stays = stays_by(house, counted, first, last)
    if stays is None or not are_enough(ledger, stays):
        return 0
    steps = towards(house, last)
    told = 1
    for room in find_lit(house, ledger):
        left = {other: counted[(room, other)] for other in house.near(room)}
        if room != last:
            # The last leaving is towards last, so it stands fast.
            left[steps[room]] -= 1
        told *= comb(ledger[room] - 1, stays[room] - 1) * count_orders_of(left)
    return told


def count_between(house, ledger, first, last):
    need_ledger(house, ledger)
    need_room(house, first)
    need_room(house, last)
    return count_to(house, ledger, [first], last)


def ends_table(house, ledger):
    need_ledger(house, ledger)
    lit = find_lit(house, ledger)
    told = {(first, last): count_to(house, ledger, [first], last) for first in lit for last in lit}
    return {pair: told[pair] for pair in told if told[pair] > 0}


def count_carryings(house, ledger):
    need_ledger(house, ledger)
    return count_all_of(house, ledger)


def own_reverses(house, ledger):
    need_ledger(house, ledger)
    odd = [room for room in ledger if ledger[room] & 1]
    # What reads the same backward is its first half, turned about: the one odd room is in the middle.
    half = {room: (ledger[room] + 1) // 2 for room in ledger}
    if len(odd) > 1:
        return 0
    return count_to(house, half, find_lit(house, half), odd[0]) if odd else count_all_of(house, half)


def rows_behind(house, ledger, room, other):
    need_ledger(house, ledger)
    need_room(house, room)
    need_room(house, other)
    if other not in house.near(room):
        raise NoDoor(room, other)
    return find_rows(house, ledger, house.rooms(), room)[other]


def are_enough(hours, stays):
    """Tell whether all rooms have their stays' hours at least, and none is lit without a stay."""
    return all([stays[room] <= hours[room] and (hours[room] == 0 or stays[room] > 0) for room in stays])


def count_orders_of(many):
    """Tell in how many orders as many things of some kinds can stand as a dict tells."""
    told = 1
    whole = 0
    for kind in many:
        whole += many[kind]
        told *= comb(whole, many[kind])
    return told


def count_all_of(house, hours):
    return sum([count_to(house, hours, house.rooms(), last) for last in find_lit(house, hours)])


def count_to(house, hours, firsts, last):
    """Tell how many carryings with these hours begin in some rooms and end in last."""
    if hours[last] == 0:
        return 0
    rows = find_rows(house, hours, firsts, last)
    visits, begun = join_rows([rows[other] for other in house.near(last)], hours[last])
    started = add_begun(visits, begun, last in firsts)
    return sum([comb(hours[last] - 1, many) * started[many] for many in range(len(started))])


def find_rows(house, hours, firsts, root):
    """Tell of all rooms but root the two lists of rows that lie behind the door to them, seen from root.

    The carryings ahead of the rows in the second list begin in some rooms alone.
    """
    steps = towards(house, root)
    told = {}
    for room in reversed(list(steps)):
        if room != root:
            branches = [told[other] for other in house.near(room) if other != steps[room]]
            if hours[room] > 0:
                told[room] = rows_at(hours[room], branches, room in firsts)
            else:
                told[room] = ([1 if all([rows[0] == 1 for rows, _ in branches]) else 0], [0])
    return told


def rows_at(hours, branches, may_begin):
    """Tell the two lists of a lit room by those of the branches behind it."""
    visits, begun = join_rows(branches, hours)
    started = add_begun(visits, begun, may_begin)
    # Of the leavings towards the root one is the last of all, so it stands fast.
    rows = [0] + [count_cut(hours, many, visits) for many in range(hours)]
    return (rows, [count_cut(hours, many, started) for many in range(hours)] + [0])


def count_cut(hours, back, visits):
    """Tell in how many ways hours are cut into stays, one more than leavings, and these are put in order.

    So many leavings are towards the root, besides the last one, others to as many visits of branches as visits counts.
    """
    told = 0
    for many in range(min(len(visits), hours - back)):
        told += comb(hours - 1, many + back) * comb(many + back, back) * visits[many]
    return told


def join_rows(branches, most):
    """Tell by how many visits, less than most in all, in how many ways and orders branches can be gone to.

    The first list is of rows alone, the second of those with one of the branches in which the carrying begins.
    """
    visits = [1]
    begun = [0]
    for rows, ahead in branches:
        begun = add_rows(mix(begun, rows, most), mix(visits, ahead, most))
        visits = mix(visits, rows, most)
    return visits, begun


def mix(ours, theirs, most):
    """Tell in how many ways rows of two lots can stand in one order, by how many there are, less than most in all."""
    told = [0 for _ in range(min(len(ours) + len(theirs) - 1, most))]
    for one, many in enumerate(ours):
        for other in range(min(len(theirs), len(told) - one)):
            told[one + other] += many * theirs[other] * comb(one + other, one)
    return told


def add_rows(ours, theirs):
    return [one + other for one, other in zip(ours, theirs)]


def add_begun(visits, begun, may_begin):
    return add_rows(visits, begun) if may_begin else begun
