"""Branches that ask the same, and surroundings that tell others apart."""

from lamplight.branches import Branch, asks, goes, is_to_hang, need_branch
from lamplight.errors import BadNumber
from lamplight.houses import House
from lamplight.kinds import is_number, need_number

RIM = "rim"
MOST_ENDS = 2


def surrounding(one, other):
    ours = asks(one)
    theirs = asks(other)
    if ours == theirs:
        return None
    asked = [each for each in (ours, theirs) if each is not None]
    fewest_hours = min([rim_hours for _, rim_hours in asked])
    if len(asked) == 2 and ours[1] == theirs[1]:
        # As many ends as one of both lets, each in a branch of its own, are too many for the other.
        free_ends = MOST_ENDS - min([ends for ends, _ in asked])
        return ([least_branch(1, 0) for _ in range(free_ends)], fewest_hours + free_ends)
    # Leaves want an hour more each, so that there are hours enough to be asked for.
    leaves = max(0, 1 - fewest_hours)
    return ([least_branch(0, 0) for _ in range(leaves)], fewest_hours + leaves)


def is_surrounding(one, other, thing):
    need_branch(one)
    need_branch(other)
    if not is_to_hang(thing):
        return False
    branches, hours = thing
    return goes([one] + list(branches), hours) != goes([other] + list(branches), hours)


def least_branch(ends, rim_hours):
    if not is_number(ends) or ends > MOST_ENDS:
        raise BadNumber(ends)
    need_number(rim_hours)
    # An end wants an arm of two rooms, and arms want a door more than rim hours.
    leaves = rim_hours + 1 - ends
    if leaves < 0:
        return None
    hours = {}
    doors = []
    for at in range(rim_hours + 1):
        hours[f"a{at}"] = 1
        doors.append((RIM, f"a{at}"))
    for at in range(ends):
        hours[f"b{at}"] = 1
        doors.append((f"a{at}", f"b{at}"))
    return Branch(House([RIM] + list(hours), doors), RIM, hours)
