"""The possible ledgers of a box that leaves no room dark: how many, and in order."""

from lamplight.boxes import is_possible
from lamplight.errors import BadIndex, BadLedger
from lamplight.kinds import is_number
from lamplight.roomhours import need_lit_box
from lamplight.ways import towards
from lamplight.wholeboxes import base_hours, gain_rooms
from lamplight.wordcounts import joined_counts, raised_by, whole_by


def count_possible(house, box):
    need_lit_box(house, box)
    return count_by(house, find_choices(house, box))


def kth_possible(house, box, number):
    need_lit_box(house, box)
    choices = find_choices(house, box)
    if not is_number(number) or number >= count_by(house, choices):
        raise BadIndex(number)
    told = {}
    # How many possible ledgers with the same hours so far are still ahead of the one that is looked for.
    rest = number
    for room in house.rooms():
        base = base_hours(house, box, room)
        short, _ = choices[room]
        choices[room] = (short, 0)
        many = count_by(house, choices)
        if rest < many:
            told[room] = base - 1
        else:
            choices[room] = (0, 1)
            above, rest = divmod(rest - many, count_by(house, choices))
            told[room] = base + above
    return told


def index_of(house, box, ledger):
    need_lit_box(house, box)
    if not is_possible(house, box, ledger):
        raise BadLedger(ledger)
    choices = find_choices(house, box)
    told = 0
    for room in house.rooms():
        above = ledger[room] - base_hours(house, box, room)
        short, _ = choices[room]
        choices[room] = (short, 0)
        if above >= 0:
            # All with this room short come first, then as many for each of its hours from base hours on.
            told += count_by(house, choices)
            choices[room] = (0, 1)
            told += above * count_by(house, choices)
    return told


def find_choices(house, box):
    """Tell of each room the pair (1 if it can be short, else 0; how many hours it can have from base hours on)."""
    gain = gain_rooms(house, box)
    told = {}
    for room in house.rooms():
        others = max(0, box[room][1] - base_hours(house, box, room) + 1)
        told[room] = (1 if room in gain else 0, others)
    return told


def count_by(house, choices):
    """Tell in how many ways rooms can be short or not, all short ones being on one way."""
    root = house.rooms()[0]
    steps = towards(house, root)
    rows = {room: (1, 0, 0, 0) for room in steps}
    for room in reversed(list(steps)):
        if room != root:
            short, others = choices[room]
            rows[steps[room]] = joined_counts(rows[steps[room]], raised_by(rows[room], short, others))
    short, others = choices[root]
    return whole_by(rows[root], short, others)
