"""Boxed branches: branches whose hours are known from a least to a most alone, and how many have which word."""

from lamplight.alikebranches import least_branch
from lamplight.branches import ENDS, INSIDE, asks, is_to_hang, need_branches
from lamplight.errors import BadBox, BadBoxed, BadRim, UnlikeDoors
from lamplight.kinds import PackageObject, is_positive, is_row, need_positive
from lamplight.ways import towards
from lamplight.wordcounts import joined_counts, raised_by


class Boxed(PackageObject):
    """A boxed branch that never changes: what it tells are copies."""

    def __init__(self, house, rim, box):
        if not house.has(rim):
            raise BadRim(rim)
        if not is_box_but(house, rim, box):
            raise BadBox(box)
        self._house = house
        self._rim = rim
        self._box = {room: tuple(box[room]) for room in house.rooms() if room != rim}

    def parts(self):
        return (self._house, self._rim, dict(self._box))

    def __eq__(self, other):
        return (isinstance(other, Boxed) and self._house == other._house and self._rim == other._rim
                and self._box == other._box)


def word_counts(boxed):
    need_boxed(boxed)
    return find_counts(boxed)


def least_hours(boxed):
    need_boxed(boxed)
    house, rim, box = boxed.parts()
    steps = towards(house, rim)
    sums = {room: (0, None, None, None) for room in steps}
    for room in reversed(list(steps)):
        if room != rim:
            doors = len(house.near(room))
            short, others = find_choices(doors, box[room])
            low = max(doors, box[room][0])
            raised = raised_sums(sums[room], doors - 1 if short > 0 else None, low if others > 0 else None)
            sums[steps[room]] = joined_sums(sums[steps[room]], raised)
    return sums[rim]


def going_count(boxed, branches, hours):
    need_boxed(boxed)
    if not is_row(branches) or len(branches) > 0:
        need_branches(branches)
    need_positive(hours)
    return count_going(boxed, branches, hours)


def box_apart(one, other):
    need_like_doors(one, other)
    ours = find_counts(one)
    theirs = find_counts(other)
    unlike = [index for index in range(4) if ours[index] != theirs[index]]
    if not unlike:
        return None
    doors = rim_doors(one)
    if unlike[0] < 2:
        # All other ends are taken, so that branches go with so many ends at most.
        taken = 2 - unlike[0]
        return ([least_branch(1, 0) for _ in range(taken)], doors + taken)
    if sum(ours) != sum(theirs):
        return ([], doors)
    # Who asks the door's hours more, does not go with an hour less than doors.
    return ([], doors - 1)


def is_box_apart(one, other, thing):
    need_like_doors(one, other)
    if not is_to_hang(thing):
        return False
    branches, hours = thing
    return count_going(one, branches, hours) != count_going(other, branches, hours)


def is_box_but(house, rim, thing):
    """Tell of any object whether it is a dict from just all rooms but the rim to pairs of least and most hours."""
    others = [room for room in house.rooms() if room != rim]
    if not isinstance(thing, dict) or len(thing) != len(others):
        return False
    return all([room in thing and is_lit_span(thing[room]) for room in others])


def is_lit_span(thing):
    """Tell of any object whether it is a pair of integers from 1 on, the second not less than the first."""
    if not is_row(thing) or len(thing) != 2:
        return False
    return is_positive(thing[0]) and is_positive(thing[1]) and thing[0] <= thing[1]


def need_boxed(thing):
    if not isinstance(thing, Boxed):
        raise BadBoxed(thing)


def need_like_doors(one, other):
    need_boxed(one)
    need_boxed(other)
    if rim_doors(one) != rim_doors(other):
        raise UnlikeDoors()


def rim_doors(boxed):
    house, rim, _ = boxed.parts()
    return len(house.near(rim))


def find_choices(doors, span):
    """Tell the pair (1 if a room of so many doors can be short, else 0; how many hours it can have above that)."""
    least, most = span
    return (1 if least < doors <= most + 1 else 0, max(0, most - max(doors, least) + 1))


def find_counts(boxed):
    house, rim, box = boxed.parts()
    steps = towards(house, rim)
    counts = {room: (1, 0, 0, 0) for room in steps}
    for room in reversed(list(steps)):
        if room != rim:
            short, others = find_choices(len(house.near(room)), box[room])
            counts[steps[room]] = joined_counts(counts[steps[room]], raised_by(counts[room], short, others))
    return counts[rim]


def count_going(boxed, branches, hours):
    """Tell with how many branches in it, put ahead of branches, goes tells True of these hours."""
    asked = [asks(branch) for branch in branches]
    if None in asked:
        return 0
    ends = sum([each for each, _ in asked])
    rim_hours = sum([each for _, each in asked]) + len(branches)
    told = 0
    for word, many in zip(list(ENDS), find_counts(boxed)):
        wanted = rim_doors(boxed) - (0 if word == INSIDE else 1)
        if ends + ENDS[word] <= 2 and hours >= rim_hours + wanted:
            told += many
    return told


def added_up(*sums):
    """Tell what sums are together, None if one is None."""
    return None if None in sums else sum(sums)


def least_of(*sums):
    """Tell the least of some sums, None being none of them."""
    return min([each for each in sums if each is not None], default=None)


def joined_sums(one, other):
    """Tell the least sums of two lots of branches that hang in one room."""
    return (
        added_up(one[0], other[0]),
        least_of(added_up(one[0], other[1]), added_up(one[1], other[0])),
        least_of(added_up(one[0], other[2]), added_up(one[2], other[0]), added_up(one[1], other[1])),
        least_of(added_up(one[0], other[3]), added_up(one[3], other[0])),
    )


def raised_sums(row, short, others):
    """Tell the least sums, seen from a room further off, of a room with branches that has these hours at least."""
    none, ended, through, inside = row
    return (
        added_up(none, others),
        least_of(added_up(ended, others), added_up(none, short), added_up(ended, short)),
        None,
        least_of(added_up(through, others), added_up(inside, others), added_up(through, short)),
    )
