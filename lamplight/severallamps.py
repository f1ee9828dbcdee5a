"""Several lamps, carried one behind another, each from where it likes."""

from lamplight.carryings import is_carrying
from lamplight.doorwords import asks_by_words, asks_inward, choose_words
from lamplight.kinds import is_row, need_positive
from lamplight.lamprows import there_and_back, waited_out
from lamplight.ledgers import find_parts, hours_of, need_ledger
from lamplight.otherhouses import part_with
from lamplight.ways import pairs_inward, towards

# The words for a door, by what it counts at a room, and whether lamps come from behind it.
VISITED = 0
ONCE = 1
VISITING = 2
SHUT = 3
WORDS = ((2, False), (1, True), (2, True), (0, False))


def is_lamp_rows(house, ledger, thing):
    need_ledger(house, ledger)
    if not is_row(thing) or len(thing) == 0 or not all([is_carrying(house, row) for row in thing]):
        return False
    hours = hours_of(house, [room for row in thing for room in row])
    return all([hours[room] == ledger[room] for room in hours])


def lamps_wanted(house, ledger):
    need_ledger(house, ledger)
    asked = 0
    for inside in lit_houses(house, ledger):
        # The whole part is like a branch behind a shut door.
        asked += asks_inward(inside, ledger, WORDS, lamp_ends)[inside.rooms()[0]][SHUT]
    return asked // 2


def lamp_rows(house, ledger, number):
    need_ledger(house, ledger)
    need_positive(number)
    told = []
    for inside in lit_houses(house, ledger):
        told += least_rows(inside, ledger)
    return cut_up(waited_out(told, ledger), number)


def branch_asks(house, ledger):
    need_ledger(house, ledger)
    told = {}
    for inside in lit_houses(house, ledger):
        asks = part_asks(inside, ledger)
        for pair in asks:
            told[pair] = asks[pair]
    return {pair: told[pair] for pair in sorted(told)}


def lit_houses(house, ledger):
    """Tell the houses of the greatest lots of lit rooms that hang together."""
    return [part_with(house, part) for part in find_parts(house, ledger)]


def lamp_ends(hours, word, count, mark):
    """Tell the least number of first and last rooms of lamps in a room by its hours and doors, None if none will do."""
    own, _ = WORDS[word]
    # Behind a shut door, or one that lamps come from, some lamp is to be.
    least = 1 if word in (VISITING, SHUT) and not mark else 0
    for ends in range(least, 3):
        stays = own + count + ends
        if not stays & 1 and 2 <= stays <= 2 * hours:
            return ends
    return None


def part_asks(inside, hours):
    """Tell of all pairs of rooms of a lit part what the branch behind the door from the first to the second asks."""
    told = {}
    # Seen from rooms whose own branches ask alike, what lies beyond the room beside them does, too.
    known = {}
    for room, other in pairs_inward(inside):
        key = (other, told.get((other, room), room))
        if key not in known:
            behind = [told[(other, third)] for third in inside.near(other) if third != room]
            known[key] = asks_by_words(WORDS, lamp_ends, hours[other], behind)
        told[(room, other)] = known[key]
    return told


def least_rows(inside, hours):
    """Tell rows for as few lamps as light a lit part, without the hours that are waited."""
    chosen = choose_words(inside, hours, WORDS, lamp_ends, SHUT)
    steps = towards(inside, inside.rooms()[0])
    left = {room: [] for room in steps}
    again = []
    for room in steps:
        if chosen[room][0] == ONCE:
            left[room].append(steps[room])
            left[steps[room]].append(room)
        elif chosen[room][0] != SHUT:
            again.append((room, steps[room]))
    return there_and_back(rows_through(left, {room: chosen[room][1] for room in chosen}), again)


def rows_through(left, ends):
    """Tell rows that go through doors once, by the rooms that each room still leads to, and how often it is an end.

    At each room doors and ends are even together, so who comes can go on, or stop. What is passed is used up.
    """
    told = []
    for room in list(ends):
        while ends[room] > 0:
            ends[room] -= 1
            row = [room]
            while ends[row[-1]] == 0:
                further = left[row[-1]].pop(0)
                left[further].remove(row[-1])
                row.append(further)
            ends[row[-1]] -= 1
            told.append(row)
    return told


def cut_up(rows, number):
    """Tell so many rows, by cutting hours off, None if there are more rows, or fewer hours."""
    told = []
    for at, row in enumerate(rows):
        # How many rows this one can be cut into, if each one that follows stays whole.
        pieces = min(len(row), number - len(told) - (len(rows) - 1 - at))
        if pieces < 1:
            return None
        told += [[room] for room in row[:pieces - 1]] + [row[pieces - 1:]]
    return told if len(told) == number else None
