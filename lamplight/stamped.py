"""First and last rooms of the carryings with a ledger and stamps, and with counters of doors, too."""

from lamplight.building import go_by, gone_again, least_passes, leavings_by, put_in_order
from lamplight.doorcounts import counter_of, find_ends_with, need_counted
from lamplight.ends import find_needs, need_all_lit
from lamplight.entrystamps import find_stamped_lasts, need_marks
from lamplight.ways import way_between


def ends_by_stamps(house, ledger, marks):
    need_all_lit(house, ledger)
    need_marks(house, marks)
    return find_stamped_ends(house, ledger, marks)


def stamped_carrying(house, ledger, marks):
    need_all_lit(house, ledger)
    need_marks(house, marks)
    pairs = find_stamped_ends(house, ledger, marks)
    if not pairs:
        return None
    first, last = pairs[0]
    counted = least_passes(house, first, last)
    if is_towards(house, marks, first, last):
        counted = gone_again(counted, [last, marks[last]])
    lists = {}
    for room in house.rooms():
        late = [marks[room]] if marks[room] is not None else []
        lists[room] = put_in_order(leavings_by(house, ledger, counted, first, room), [], late)
    return go_by(lists, first)


def ends_by_all(house, ledger, marks, counted):
    need_all_lit(house, ledger)
    need_marks(house, marks)
    need_counted(house, counted)
    lasts = find_stamped_lasts(house, marks)
    told = []
    for first, last in find_ends_with(house, ledger, counted):
        if last in lasts and is_stamped_so(house, marks, counted, first, last):
            told.append((first, last))
    return told


def is_towards(house, marks, first, last):
    """Tell whether last has a stamp towards first."""
    return marks[last] in way_between(house, last, first)


def find_stamped_ends(house, hours, marks):
    told = []
    for last in find_stamped_lasts(house, marks):
        for first in house.rooms():
            if is_stamped_end(house, hours, marks, first, last):
                told.append((first, last))
    return sorted(told)


def is_stamped_end(house, hours, marks, first, last):
    """Tell whether a last room by the stamps is one of a carrying from first with these hours."""
    over = hours_over(house, hours, first, last)
    if min([over[room] for room in over]) < 0:
        return False
    if marks[last] is None:
        # It is come to once, and never left.
        return first != last or len(house) == 1
    return not is_towards(house, marks, first, last) or (over[last] > 0 and over[marks[last]] > 0)


def hours_over(house, hours, first, last):
    """Tell what the hours of all rooms are above the least stays from first to last."""
    wanted = find_needs(house, first, last)
    return {room: hours[room] - wanted[room] for room in wanted}


def is_stamped_so(house, marks, counted, first, last):
    """Tell whether a last room by the stamps is one with these counters, too, from first."""
    near = house.near(last)
    never_left = len(near) == 0 or (len(near) == 1 and counter_of(counted, last, near[0]) == 1)
    if (marks[last] is None) != never_left:
        return False
    return not is_towards(house, marks, first, last) or counter_of(counted, last, marks[last]) > 2
