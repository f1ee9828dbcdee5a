"""Houses told back by a keeper, who knows of ledgers whether they are full."""

from itertools import combinations
from lamplight.errors import BadKeeper, BadRooms, NoHouse, NoTruth
from lamplight.houses import rooms_fault
from lamplight.kinds import is_function
from lamplight.plainhouses import plain_house


def told_back(rooms, keeper):
    need_rooms(rooms)
    if not is_function(keeper):
        raise BadKeeper(keeper)
    # With as many hours as rooms a room lets be full what others let, whatever the house is.
    much = {room: len(rooms) for room in sorted(rooms)}
    records = []
    bare = {}
    for room in much:
        bare[room] = fewest_told(keeper, much, room, records)
        if bare[room] is None:
            raise NoHouse(records)
    threes = []
    for three in combinations(list(much), 3):
        # Three rooms are full with their fewest hours just if they lie on one way.
        if not is_told_full(keeper, {**much, **{room: bare[room] for room in three}}, records):
            threes.append(three)
    house = plain_house(bare, threes)
    if house is None:
        raise NoHouse(records)
    return house


def need_rooms(rooms):
    index = rooms_fault(rooms)
    if index is not None:
        raise BadRooms(index)


def fewest_told(keeper, much, room, records):
    """Tell the fewest hours of room, all others having much, that a keeper tells to be full, None if none are."""
    for hours in range(1, max(2, len(much))):
        if is_told_full(keeper, {**much, room: hours}, records):
            return hours
    return None


def is_told_full(keeper, ledger, records):
    """Ask a keeper of a ledger, and put the answer to the records."""
    truth = keeper(dict(ledger))
    if not isinstance(truth, bool):
        raise NoTruth(truth)
    records.append((ledger, truth))
    return truth
