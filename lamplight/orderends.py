"""Last rooms of the carryings with an order of first light, and which rooms can be lit first and last."""

from lamplight.ends import find_ends
from lamplight.houses import need_room
from lamplight.lamprows import waited_out
from lamplight.ledgers import lit_house
from lamplight.orders import need_whole_order, needs_of, row_through
from lamplight.ways import towards, way_between


def ends_of_order(house, ledger, order):
    need_whole_order(house, ledger, order)
    return find_order_ends(house, ledger, order)


def carrying_to(house, ledger, order, last):
    need_whole_order(house, ledger, order)
    need_room(house, last)
    if last not in find_order_ends(house, ledger, order):
        return None
    return waited_out([row_through(house, order) + way_between(house, order[-1], last)[1:]], ledger)[0]


def ends_by_light(house, ledger):
    inside = lit_house(house, ledger)
    pairs = find_ends(inside, ledger)
    if len(inside) == 1:
        return pairs
    return [(first, last) for first, last in pairs if first != last and len(inside.near(last)) == 1]


def find_order_ends(house, hours, order):
    """Tell, ascending, the last rooms of the carryings with an order of all lit rooms."""
    wanted = needs_of(house, order)
    if any([hours[room] < wanted[room] for room in wanted]):
        return []
    steps = towards(house, order[-1])
    found = {order[-1]: True}
    for room in steps:
        if steps[room] in found and hours[room] > wanted[room]:
            found[room] = True
    return sorted(found)
