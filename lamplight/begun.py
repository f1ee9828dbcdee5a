"""Orders of first light that are begun: whether a carrying with a ledger goes on so, and with which rooms."""

from lamplight.kinds import is_row
from lamplight.ledgers import lit_house
from lamplight.orders import need_order, needs_of
from lamplight.ways import on_way_from, towards, way_between


def begins(house, ledger, order):
    inside = lit_house(house, ledger)
    need_order(inside, order)
    return can_go_on(inside, left_by(inside, ledger, order), order)


def gone_on(house, ledger, order):
    inside = lit_house(house, ledger)
    need_order(inside, order)
    whole = list(order)
    left = left_by(inside, ledger, order)
    if not can_go_on(inside, left, whole):
        return None
    while len(whole) < len(inside):
        further = [room for room in lit_beside(inside, whole)
                   if can_go_on(inside, left_then(inside, left, whole[-1], room), whole + [room])]
        left = left_then(inside, left, whole[-1], further[0])
        whole.append(further[0])
    return whole


def next_lit(house, ledger, order):
    inside = lit_house(house, ledger)
    if is_row(order) and len(order) == 0:
        return [room for room in inside.rooms() if can_go_on(inside, left_by(inside, ledger, [room]), [room])]
    need_order(inside, order)
    left = left_by(inside, ledger, order)
    return [room for room in lit_beside(inside, order)
            if can_go_on(inside, left_then(inside, left, order[-1], room), list(order) + [room])]


def left_by(house, hours, order):
    """Tell what is left of hours, perhaps less than nothing, behind what an order needs."""
    wanted = needs_of(house, order)
    return {room: hours[room] - wanted[room] for room in wanted}


def left_then(house, left, last, room):
    """Tell what is left if behind the last room of an order the lamp is carried to one more."""
    told = dict(left)
    for further in way_between(house, last, room)[1:]:
        told[further] -= 1
    return told


def lit_beside(house, order):
    """Tell, ascending, the rooms that an order has not, but beside one that it has."""
    return [room for room in house.rooms()
            if room not in order and any([other in order for other in house.near(room)])]


def can_go_on(house, left, order):
    """Tell whether, with the hours left behind an order, all other rooms can still be lit.

    What is wanted at a room for that is one hour for each door that leads on to such rooms, or back to the order's
    last one; one less where the lamp does not come back, which it need not on one way from the last room.
    """
    if any([left[room] < 0 for room in left]):
        return False
    doors = doors_on(house, order)
    if any([left[room] < doors[room] - 1 for room in doors]):
        return False
    return on_way_from(house, order[-1], [room for room in doors if left[room] < doors[room]])


def doors_on(house, order):
    """Tell, for the ways from an order's last room to those that it has not, how many doors each room on them has."""
    steps = towards(house, order[-1])
    doors = {}
    for room in reversed(list(steps)):
        if room in doors or room not in order:
            doors[room] = doors.get(room, 0)
            step = steps[room]
            if step is not None:
                doors[room] += 1
                doors[step] = doors.get(step, 0) + 1
    return doors
