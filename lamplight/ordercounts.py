"""Orders of first light of a ledger: listed, counted and numbered."""

from math import comb, factorial
from lamplight.errors import NoRoom, NoSuch
from lamplight.kinds import is_number
from lamplight.ledgers import lit_house
from lamplight.orders import need_whole_order
from lamplight.ways import towards, way_between


def orders_of(house, ledger):
    return find_orders(lit_house(house, ledger), ledger)


def count_orders(house, ledger):
    inside = lit_house(house, ledger)
    return sum([count_from(inside, ledger, room) for room in inside.rooms()])


def order_numbered(house, ledger, number):
    orders = find_orders(lit_house(house, ledger), ledger)
    if not is_number(number) or number >= len(orders):
        raise NoSuch(number)
    return orders[number]


def order_number(house, ledger, order):
    need_whole_order(house, ledger, order)
    orders = find_orders(lit_house(house, ledger), ledger)
    return orders.index(list(order)) if list(order) in orders else None


def count_all(house):
    return sum([factorial(len(house)) // sizes_behind(house, room) for room in house.rooms()])


def lit_ahead(house, ledger, room, other):
    inside = lit_house(house, ledger)
    for thing in (room, other):
        if not inside.has(thing):
            raise NoRoom(thing)
    orders = find_orders(inside, ledger)
    if room == other or len(orders) == 0:
        return None
    ahead = len([order for order in orders if order.index(room) < order.index(other)])
    if ahead == 0:
        return "never"
    return "always" if ahead == len(orders) else "sometimes"


def sizes_behind(house, first):
    """Tell the product over all rooms of how many lie behind each, with it, seen from the first room."""
    steps = towards(house, first)
    sizes = {}
    product_of = 1
    for room in reversed(list(steps)):
        sizes[room] = 1 + sum([sizes[other] for other in house.near(room) if other != steps[room]])
        product_of = product_of * sizes[room]
    return product_of


def find_orders(inside, hours):
    """Tell, ascending, the orders of all rooms of the lit house that its hours are enough for."""
    ways = {(one, other): way_between(inside, one, other)[1:] for one in inside.rooms() for other in inside.rooms()}
    told = []
    # What is begun is kept with the hours that it leaves; the least of it is gone on with first.
    waiting = [([room], {**hours, room: hours[room] - 1}) for room in reversed(inside.rooms())]
    while waiting:
        order, left = waiting.pop()
        if len(order) == len(inside):
            told.append(order)
        for room in reversed(inside.rooms()):
            if room not in order and any([other in order for other in inside.near(room)]):
                fewer = dict(left)
                for further in ways[(order[-1], room)]:
                    fewer[further] -= 1
                if min(list(fewer.values())) >= 0:
                    waiting.append((order + [room], fewer))
    return told


def count_from(inside, hours, first):
    """Tell how many orders that begin with a room the hours of the lit house are enough for."""
    steps = towards(inside, first)
    tables = {}
    for room in reversed(list(steps)):
        mixed = mix([tables[other] for other in inside.near(room) if other != steps[room]])
        tables[room] = (pieces_of(hours[room], mixed, False), pieces_of(hours[room], mixed, True))
    return tables[first][0].get(1, 0)


def pieces_of(many, mixed, goes_on):
    """Tell by pieces how many ways there are to light a room and its branches in so many, with others between.

    The room has so many hours; mixed is told of its branches, goes_on whether others come behind the last piece.
    """
    told = {}
    for (runs, free, is_ended), ways in mixed.items():
        # The end is in a branch, if there is one, when nothing comes behind.
        if is_ended != (not goes_on and runs > 0):
            continue
        blocks = free + (1 if is_ended else 0)
        for pieces in range(1, blocks + 2):
            # Each time that others come is one run more, behind this room.
            if runs + pieces - 1 + (1 if goes_on else 0) <= many:
                told[pieces] = told.get(pieces, 0) + ways * comb(blocks, pieces - 1)
    return told


def mix(behind):
    """Tell of branches, by (runs, blocks that are free, whether one ends all), in how many ways they can be mixed.

    Two blocks of a branch without anything between them would be one run: such ways are taken off by counting, with a
    sign that changes for each, those in which pieces are put together. The block that ends all is not free.
    """
    table = {(0, 0, False): 1}
    for ending, going in behind:
        further = {}
        for (runs, free, is_ended), ways in table.items():
            for pieces, blocks, many in put_together(going):
                add_to(further, (runs + pieces, free + blocks, is_ended), ways * many * comb(free + blocks, blocks))
            # One branch alone can end all.
            endings = [] if is_ended else put_together(ending)
            for pieces, blocks, many in endings:
                mixed = ways * many * comb(free + blocks - 1, free)
                add_to(further, (runs + pieces, free + blocks - 1, True), mixed)
        table = further
    return table


def put_together(pieces_told):
    """Tell triples (pieces, blocks, many): pieces put together to blocks, with a sign for how many less they are."""
    told = []
    for pieces, many in pieces_told.items():
        for blocks in range(1, pieces + 1):
            sign = -1 if (pieces - blocks) & 1 else 1
            told.append((pieces, blocks, sign * many * comb(pieces - 1, blocks - 1)))
    return told


def add_to(counts, key, many):
    counts[key] = counts.get(key, 0) + many
