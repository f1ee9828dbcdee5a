"""Lighters, who carry the lamp by what is left; and judges, who tell of ledgers."""

from lamplight.errors import BadJudge, BadLighter
from lamplight.goingon import all_left, can_go_on, may_come
from lamplight.houses import House
from lamplight.kinds import is_function, need_number
from lamplight.ledgers import need_ledger
from lamplight.onelaw import holds
from lamplight.ways import doors_off

MIDDLE = "m"
# Both arms have these letters and how many doors a room is off the middle.
ARMS = ("a", "b")


def run_lighter(house, ledger, lighter):
    need_ledger(house, ledger)
    if not is_function(lighter):
        raise BadLighter(lighter)
    left = all_left(house, ledger)
    rooms = []
    ahead = None
    while any([left[room] > 0 for room in left]):
        told = lighter(tuple(rooms), dict(left))
        if not may_come(house, left, ahead, told):
            return (rooms, "odd")
        rooms.append(told)
        if not can_go_on(house, left, told):
            return (rooms, "lost")
        left[told] -= 1
        ahead = told
    return (rooms, "done")


def beat_near(reach, lighter):
    need_number(reach)
    if not is_function(lighter):
        raise BadLighter(lighter)
    house = two_arms(reach)
    # Which arm has the short room does not show from the middle, so it can be chosen behind the answer.
    left = arms_ledger(house, reach, ARMS[0])
    left[MIDDLE] -= 1
    told = lighter((MIDDLE,), near_hours(house, left, MIDDLE, reach))
    carrying = [MIDDLE]
    if may_come(house, left, MIDDLE, told):
        carrying.append(told)
    arm = ARMS[1] if told == arm_room(ARMS[1], 1) else ARMS[0]
    return (house, arms_ledger(house, reach, arm), carrying)


def judge_fault(house, judge, hours):
    if not is_function(judge):
        raise BadJudge(judge)
    need_number(hours)
    rooms = house.rooms()
    row = next_row([0 for _ in rooms], hours)
    while row is not None:
        ledger = dict(zip(rooms, row))
        told = judge(dict(ledger))
        if not isinstance(told, bool) or told != holds(house, ledger):
            return ledger
        row = next_row(row, hours)
    return None


def arm_room(arm, off):
    return f"{arm}{off}"


def two_arms(reach):
    """Tell the house of a middle room and two rows, each going two rooms beyond reach."""
    rooms = [MIDDLE]
    doors = []
    for arm in ARMS:
        ahead = MIDDLE
        for off in range(1, reach + 3):
            rooms.append(arm_room(arm, off))
            doors.append((ahead, rooms[-1]))
            ahead = rooms[-1]
    return House(rooms, doors)


def arms_ledger(house, reach, arm):
    """Tell the ledger with a short room in one arm, just out of reach, so that the other arm is to be lit ahead."""
    ledger = {room: 2 for room in house.rooms()}
    ledger[arm_room(arm, reach + 1)] = 1
    for each in ARMS:
        ledger[arm_room(each, reach + 2)] = 1
    return ledger


def near_hours(house, left, place, reach):
    """Tell the hours left, ascending by rooms, of the rooms at most so many doors off a place."""
    off = doors_off(house, place)
    return {room: left[room] for room in house.rooms() if off[room] <= reach}


def next_row(hours, most):
    """Tell the row of numbers next behind hours whose sum is at most most, None behind the last one."""
    row = list(hours)
    if sum(row) < most:
        row[-1] += 1
        return row
    # The last number that is not 0 goes back to it, and the one ahead of it goes up.
    at = max([place for place, number in enumerate(row) if number > 0], default=0)
    if at == 0:
        return None
    row[at] = 0
    row[at - 1] += 1
    return row
