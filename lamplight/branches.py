"""Branches with a bare rim: parts of houses that are hung together in one room, and what they ask of it."""

from lamplight.ends import need_all_lit
from lamplight.errors import BadBranch, BadBranches, BadHours, BadRim, BadWords
from lamplight.houses import House
from lamplight.kinds import PackageObject, is_positive, is_row, need_positive
from lamplight.otherhouses import part_with
from lamplight.ways import behind, on_one_way, on_way_from

HUNG_RIM = "rim"
NEVER = "never"
FREE = "free"
END = "end"
THROUGH = "through"
INSIDE = "inside"
# How many ends of the way of all short rooms a branch has by its word.
ENDS = {"free": 0, "end": 1, "through": 2, "inside": 2}


class Branch(PackageObject):
    """A branch that never changes: what it tells are copies."""

    def __init__(self, house, rim, hours):
        if not house.has(rim):
            raise BadRim(rim)
        if not is_hours_but(house, rim, hours):
            raise BadHours(hours)
        self._house = house
        self._rim = rim
        self._hours = {room: hours[room] for room in house.rooms() if room != rim}

    def parts(self):
        return (self._house, self._rim, dict(self._hours))

    def __eq__(self, other):
        return (isinstance(other, Branch) and self._house == other._house and self._rim == other._rim
                and self._hours == other._hours)


def hung(branches, hours):
    need_branches(branches)
    need_positive(hours)
    ledger = {HUNG_RIM: hours}
    doors = []
    for index, branch in enumerate(branches):
        house, rim, given = branch.parts()
        names = {rim: HUNG_RIM}
        for place, room in enumerate(given):
            names[room] = f"b{index}r{place}"
            ledger[names[room]] = given[room]
        doors += [(names[one], names[other]) for one, other in house.doors()]
    return House(list(ledger), doors), {room: ledger[room] for room in sorted(ledger)}


def cut_off(house, ledger, room, other):
    need_all_lit(house, ledger)
    rooms = behind(house, room, other)
    return Branch(part_with(house, rooms + [room]), room, {name: ledger[name] for name in rooms})


def word_of(branch):
    need_branch(branch)
    house, rim, hours = branch.parts()
    spare = {room: hours[room] - (len(house.near(room)) - 1) for room in hours}
    short = [room for room in spare if spare[room] == 0]
    if any([spare[room] < 0 for room in spare]) or not on_one_way(house, short):
        return NEVER
    if len(short) == 0:
        return FREE
    if on_way_from(house, rim, short):
        return END
    return THROUGH if on_one_way(house, short + [rim]) else INSIDE


def added_word(words):
    need_words(words)
    others = [word for word in words if word != FREE]
    if len(others) == 0:
        return FREE
    if others == [END, END]:
        return THROUGH
    return others[0] if len(others) == 1 else NEVER


def asks(branch):
    word = word_of(branch)
    if word == NEVER:
        return None
    house, rim, _ = branch.parts()
    doors = len(house.near(rim))
    return (ENDS[word], doors if word == INSIDE else doors - 1)


def goes(branches, hours):
    need_branches(branches)
    need_positive(hours)
    asked = [asks(branch) for branch in branches]
    if None in asked:
        return False
    ends = sum([each for each, _ in asked])
    return ends <= 2 and hours >= sum([rim_hours for _, rim_hours in asked]) + len(branches) - 1


def is_hours_but(house, rim, thing):
    """Tell of any object whether it is a dict from just all rooms but the rim to integers from 1 on."""
    others = [room for room in house.rooms() if room != rim]
    if not isinstance(thing, dict) or len(thing) != len(others):
        return False
    return all([room in thing and is_positive(thing[room]) for room in others])


def is_to_hang(thing):
    """Tell of any object whether it is a pair of a list of branches, perhaps none, and hours from 1 on."""
    if not is_row(thing) or len(thing) != 2 or not is_row(thing[0]):
        return False
    return all([isinstance(branch, Branch) for branch in thing[0]]) and is_positive(thing[1])


def need_branch(thing):
    if not isinstance(thing, Branch):
        raise BadBranch(thing)


def need_branches(thing):
    if not is_row(thing) or len(thing) == 0:
        raise BadBranches(0)
    for index, branch in enumerate(thing):
        if not isinstance(branch, Branch):
            raise BadBranches(index)


def need_words(thing):
    if not is_row(thing):
        raise BadWords(0)
    for index, word in enumerate(thing):
        if not isinstance(word, str) or (word != NEVER and word not in ENDS):
            raise BadWords(index)
