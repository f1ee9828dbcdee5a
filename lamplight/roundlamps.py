"""Several lamps that each end where they begin.

Doors that are shut cut the lit rooms into parts, one for each lamp: in each of them no room may have more doors than
hours, and some room, in which the lamp begins and ends, has to have fewer.
"""

from lamplight.doorwords import asks_inward, choose_words
from lamplight.kinds import need_positive
from lamplight.lamprows import there_and_back, waited_out
from lamplight.ledgers import need_ledger
from lamplight.severallamps import lit_houses
from lamplight.ways import towards

# The words for a door, seen from the room on this side: a room with fewer doors than hours is behind it; none need be;
# it is shut. Each one tells what it counts at a room, and whether it leads to a room with fewer doors than hours.
GIVING = 0
ASKING = 1
SHUT = 2
WORDS = ((1, True), (1, False), (0, False))


def round_wanted(house, ledger):
    need_ledger(house, ledger)
    # The whole part is like a branch behind a shut door.
    return sum([asks_inward(inside, ledger, WORDS, doors_shut)[inside.rooms()[0]][SHUT]
                for inside in lit_houses(house, ledger)])


def round_rows(house, ledger, number):
    need_ledger(house, ledger)
    need_positive(number)
    told = []
    for inside in lit_houses(house, ledger):
        told += least_rows(inside, ledger)
    return split_off(waited_out(told, ledger), number)


def doors_shut(hours, word, count, mark):
    """Tell how many doors a room shuts itself, its own or none, by its hours and other doors, None if it cannot be."""
    own, _ = WORDS[word]
    if count + own > hours:
        return None
    if word != ASKING and not mark and count + own == hours:
        return None
    return 1 if word == SHUT else 0


def least_rows(inside, hours):
    """Tell rows for as few lamps as light a lit part and come back, without the hours that are waited."""
    chosen = choose_words(inside, hours, WORDS, doors_shut, SHUT)
    steps = towards(inside, inside.rooms()[0])
    heads = {}
    through = {room: 0 for room in steps}
    again = []
    for room in steps:
        # The parts that are left are known by their outermost room towards the least one.
        heads[room] = room if chosen[room][0] == SHUT else heads[steps[room]]
        if chosen[room][0] != SHUT:
            again.append((room, steps[room]))
            through[room] += 1
            through[steps[room]] += 1
    begun = {}
    for room in inside.rooms():
        if through[room] < hours[room]:
            begun[heads[room]] = room
    return there_and_back([[begun[head]] for head in begun], again)


def split_off(rows, number):
    """Tell so many rows, by splitting single hours off, None if there are more rows, or fewer hours."""
    missing = number - len(rows)
    told = []
    for row in rows:
        left = list(row)
        while missing > 0 and len(left) > 1:
            told.append([left.pop(to_spare(left))])
            missing -= 1
        told.append(left)
    return told if missing == 0 else None


def to_spare(row):
    """Tell an index of a row that ends where it begins, but one hour, without which it is still such a row.

    There is one: the lamp waits somewhere, or turns about where it is most doors off its first room.
    """
    at = 1
    while row[at - 1] != row[at] and row[at - 1] != row[at + 1]:
        at += 1
    return at
