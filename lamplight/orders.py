"""Orders of first light: how a carrying first lights its rooms, and how many hours each of them needs for that."""

from lamplight.carryings import first_lit
from lamplight.errors import BadOrder, NoRoom
from lamplight.kinds import is_row
from lamplight.lamprows import waited_out
from lamplight.ledgers import lit_house
from lamplight.ways import towards, way_between


def is_order(house, thing):
    return wrong_in_order(house, thing) is None


def order_of(house, carrying):
    return list(first_lit(house, carrying))


def runs_behind(house, order, room):
    need_order(house, order)
    if room not in order:
        raise NoRoom(room)
    doors = doors_from(house, room)
    runs = []
    ahead = None
    for other in order[order.index(room) + 1:]:
        if doors[other] == ahead:
            runs[-1].append(other)
        else:
            runs.append([other])
        ahead = doors[other]
    return runs


def order_needs(house, order):
    need_order(house, order)
    wanted = needs_of(house, order)
    return {room: wanted[room] for room in sorted(order)}


def order_fault(house, ledger, order):
    need_whole_order(house, ledger, order)
    return first_need(house, ledger, order)


def carrying_in_order(house, ledger, order):
    need_whole_order(house, ledger, order)
    if first_need(house, ledger, order) is not None:
        return None
    return waited_out([row_through(house, order)], ledger)[0]


def wrong_in_order(house, thing):
    """Tell the index of the first thing that keeps any object from being an order, None if it is one."""
    if not is_row(thing) or len(thing) == 0:
        return 0
    seen = {}
    for index, room in enumerate(thing):
        if not house.has(room) or room in seen:
            return index
        if index > 0 and not any([other in seen for other in house.near(room)]):
            return index
        seen[room] = True
    return None


def need_order(house, order):
    index = wrong_in_order(house, order)
    if index is not None:
        raise BadOrder(index)


def need_whole_order(house, ledger, order):
    inside = lit_house(house, ledger)
    need_order(inside, order)
    if len(order) < len(inside):
        raise BadOrder(len(order))


def doors_from(house, room):
    """Tell of all rooms but this one the room beside it through which ways from it lead to them."""
    steps = towards(house, room)
    doors = {}
    for other in steps:
        if other != room:
            doors[other] = other if steps[other] == room else doors[steps[other]]
    return doors


def row_through(house, order):
    """Tell the shortest carrying with an order: it is in each room for as many hours as this needs."""
    row = [order[0]]
    for at in range(1, len(order)):
        row += way_between(house, order[at - 1], order[at])[1:]
    return row


def needs_of(house, order):
    """Tell of all rooms, ascending, how many hours an order needs there: 0 if it has not the room."""
    told = {room: 0 for room in house.rooms()}
    for room in row_through(house, order):
        told[room] += 1
    return told


def first_need(house, hours, order):
    """Tell the first room with fewer hours than an order needs there, with both, None if there is none."""
    wanted = needs_of(house, order)
    for room in wanted:
        if hours[room] < wanted[room]:
            return (room, hours[room], wanted[room])
    return None
