"""Chances of first and last rooms, of passes through doors and of stays in rooms."""

from math import comb
from lamplight.counting import count_all_of, count_to, ends_table
from lamplight.endedrows import find_ended, join_ended
from lamplight.errors import NoDoor
from lamplight.evenly import chances_by, mean_by, need_drawn
from lamplight.houses import need_room
from lamplight.ledgers import find_lit
from lamplight.numbering import carrying_at


def drawn_by(house, ledger, chooser):
    need_drawn(house, ledger)
    return carrying_at(house, ledger, chooser(count_all_of(house, ledger)))


def ends_chances(house, ledger):
    need_drawn(house, ledger)
    return chances_by(ends_table(house, ledger))


def first_chances(house, ledger):
    need_drawn(house, ledger)
    lit = find_lit(house, ledger)
    # As many begin in a room as end there.
    return chances_by({room: count_to(house, ledger, lit, room) for room in lit})


def door_chances(house, ledger, one, other):
    need_drawn(house, ledger)
    need_room(house, one)
    need_room(house, other)
    if other not in house.near(one):
        raise NoDoor(one, other)
    return chances_by(count_by_passes(house, ledger, one, other))


def mean_passes(house, ledger):
    need_drawn(house, ledger)
    return {door: mean_by(count_by_passes(house, ledger, door[0], door[1])) for door in house.doors()}


def stay_chances(house, ledger, place):
    need_drawn(house, ledger)
    need_room(house, place)
    return chances_by(count_by_stays(house, ledger, place))


def mean_stays(house, ledger):
    need_drawn(house, ledger)
    return {room: mean_by(count_by_stays(house, ledger, room)) for room in house.rooms()}


def count_by_passes(house, hours, one, other):
    """Tell, by how often a door is gone through, how many carryings there are."""
    if hours[one] == 0 or hours[other] == 0:
        return {0: 1}
    near = find_ended(house, hours, other)[one]
    far = find_ended(house, hours, one)[other]
    told = {}
    for many in range(min(hours[one], hours[other]) + 1):
        if many > 0:
            # Begun and ended on one side, the other side's rows all being whole.
            told[2 * many] = near[2][many - 1] * far[0][many] + far[2][many - 1] * near[0][many]
        told[2 * many + 1] = 2 * near[1][many] * far[1][many]
    return told


def count_by_stays(house, hours, place):
    """Tell, by how many stays in a place there are, how many carryings there are."""
    if hours[place] == 0:
        return {0: 1}
    rows = find_ended(house, hours, place)
    _, _, both = join_ended([rows[other] for other in house.near(place)], hours[place])
    return {back + 1: comb(hours[place] - 1, back) * both[back] for back in range(len(both))}
