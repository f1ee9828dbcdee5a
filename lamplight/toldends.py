"""Several lamps whose first and last rooms are told.

Each lamp goes the way between its rooms. The bare rooms, on none of these ways, are lit there and back through a door
to a room that each of them chooses; the rest is waited.
"""

from lamplight.doorwords import choose_words
from lamplight.errors import BadEnds
from lamplight.kinds import is_row
from lamplight.lamprows import there_and_back, waited_out
from lamplight.ledgers import find_lit, need_ledger
from lamplight.severallamps import lit_houses
from lamplight.ways import towards, way_between

# The words for a door, seen from the room on this side: the room behind it chooses this one; it is chosen by it;
# neither. Each one tells how often this room is chosen, and whether it has chosen itself.
CHOOSING = 0
CHOSEN = 1
NEITHER = 2
WORDS = ((1, False), (0, True), (0, False))


def rows_between(house, ledger, ends):
    need_ledger(house, ledger)
    need_pairs(house, ends)
    ways = [way_between(house, first, last) for first, last in ends]
    chosen = find_choices(house, ledger, ways)
    if chosen is None:
        return None
    return waited_out(there_and_back(ways, [(room, chosen[room]) for room in chosen]), ledger)


def bare_choices(house, ledger, ends):
    need_ledger(house, ledger)
    need_pairs(house, ends)
    return find_choices(house, ledger, [way_between(house, first, last) for first, last in ends])


def need_pairs(house, ends):
    if not is_row(ends) or len(ends) == 0:
        raise BadEnds(0)
    for index, pair in enumerate(ends):
        if not is_row(pair) or len(pair) != 2 or not all([house.has(room) for room in pair]):
            raise BadEnds(index)


def find_choices(house, hours, ways):
    """Tell, ascending, of the lit bare rooms which one each chooses, None if they cannot all choose."""
    through = {room: 0 for room in house.rooms()}
    for rooms in ways:
        for room in rooms:
            through[room] += 1
    if any([hours[room] < through[room] for room in through]):
        return None
    # Of each lit room: how often it can be chosen, and whether it is bare, which takes an hour, too.
    have = {room: (hours[room] - max(through[room], 1), through[room] == 0) for room in find_lit(house, hours)}
    told = {}
    for inside in lit_houses(house, hours):
        words = choose_words(inside, have, WORDS, choices_down, NEITHER)
        if words is None:
            return None
        steps = towards(inside, inside.rooms()[0])
        for room in steps:
            if words[room][0] == CHOOSING:
                told[room] = steps[room]
            elif words[room][0] == CHOSEN:
                told[steps[room]] = room
    return {room: told[room] for room in sorted(told)}


def choices_down(had, word, count, mark):
    """Tell 1 of a room that is chosen from ahead, else 0, None if it cannot be.

    As being chosen counts, no room chooses two: it could as well choose one of them alone.
    """
    spare, is_bare = had
    if word == CHOOSING:
        return 0 if is_bare and not mark and count <= spare else None
    chosen = 1 if word == CHOSEN else 0
    return chosen if is_bare == mark and count + chosen <= spare else None
