"""Full ledgers, and hours that are put in to make a ledger full."""

from lamplight.kinds import is_positive
from lamplight.leastledgers import inner_rooms
from lamplight.ledgers import is_ledger, need_ledger
from lamplight.onelaw import holds
from lamplight.prices import need_prices
from lamplight.ways import leaf_ways
from lamplight.wholeboxes import worthiest_way


def is_full(house, thing):
    return is_ledger(house, thing) and all([is_positive(thing[room]) for room in thing]) and holds(house, thing)


def wanted_hours(house, ledger):
    need_ledger(house, ledger)
    return find_wanted(house, ledger)


def fewest_added(house, ledger):
    need_ledger(house, ledger)
    wanted = find_wanted(house, ledger)
    return price_of(wanted, {room: 1 for room in wanted}) - most_on_way(house, wanting_inner(house, wanted))


def all_added(house, ledger):
    need_ledger(house, ledger)
    wanted = find_wanted(house, ledger)
    return sorted_changes([change_by(wanted, lot) for lot in greatest_lots(house, wanting_inner(house, wanted))])


def cheapest_added(house, ledger, prices):
    need_ledger(house, ledger)
    need_prices(house, prices)
    wanted = find_wanted(house, ledger)
    changes = [change_by(wanted, lot) for lot in lots_on_ways(house, wanting_inner(house, wanted))]
    least = min([price_of(change, prices) for change in changes])
    return (least, sorted_changes([change for change in changes if price_of(change, prices) == least])[0])


def find_wanted(house, hours):
    """Tell of the rooms with fewer hours than doors, or none, ascending, how many they lack."""
    lack = {room: max(len(house.near(room)), 1) - hours[room] for room in house.rooms()}
    return {room: lack[room] for room in lack if lack[room] > 0}


def wanting_inner(house, wanted):
    """Tell the rooms of which an hour less than wanted is enough if the lamp goes through them, ascending."""
    return [room for room in inner_rooms(house) if room in wanted]


def change_by(wanted, lot):
    """Tell what is put in where a lot of rooms get an hour less than they want."""
    lack = {room: wanted[room] - (1 if room in lot else 0) for room in wanted}
    return {room: lack[room] for room in lack if lack[room] > 0}


def price_of(change, prices):
    return sum([change[room] * prices[room] for room in change])


def sorted_changes(changes):
    return sorted(changes, key=lambda change: list(change.items()))


def most_on_way(house, some):
    """Tell how many of some rooms lie on one way at most."""
    worth = {room: 1 if room in some else 0 for room in house.rooms()}
    return sum([worth[room] for room in worthiest_way(house, worth)])


def lots_on_ways(house, some):
    """Tell the unlike lots, ascending rows, that ways between leaves have of some rooms, which are ascending."""
    return sorted(set([tuple([room for room in some if room in through]) for through in leaf_ways(house)]))


def greatest_lots(house, some):
    """Tell the greatest lots of some rooms, which are ascending, that lie on one way."""
    lots = lots_on_ways(house, some)
    most = max([len(lot) for lot in lots])
    return [lot for lot in lots if len(lot) == most]
