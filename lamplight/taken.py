"""What can be taken from a full ledger, and which rooms and doors keep a ledger from being full."""

from itertools import combinations
from lamplight.added import find_wanted, greatest_lots, is_full, sorted_changes
from lamplight.errors import NotFull
from lamplight.houses import House, reach
from lamplight.leastledgers import inner_rooms, least_ledgers
from lamplight.ledgers import need_ledger
from lamplight.onelaw import is_way_of_three
from lamplight.ways import doors_off


def most_taken(house, ledger):
    need_full(house, ledger)
    return max([sum_of(ledger) - sum_of(least) for least in find_below(house, ledger)])


def least_below(house, ledger):
    need_full(house, ledger)
    return sorted_changes(find_below(house, ledger))


def fewest_rooms(house, ledger):
    need_ledger(house, ledger)
    wanted = find_wanted(house, ledger)
    # A room with an hour less than doors can keep its hours if the lamp goes through it.
    nearly = [room for room in inner_rooms(house) if wanted.get(room) == 1]
    return sorted([[room for room in wanted if room not in lot] for lot in greatest_lots(house, nearly)])


def strength(house, ledger):
    need_full(house, ledger)
    return min([taken for taken, _ in find_spots(house, ledger)], default=None)


def weak_spots(house, ledger):
    need_full(house, ledger)
    spots = find_spots(house, ledger)
    least = min([taken for taken, _ in spots], default=None)
    return sorted([spot for taken, spot in spots if taken == least])


def mending_doors(house, ledger):
    need_ledger(house, ledger)
    told = []
    for door in house.doors():
        kept = [each for each in house.doors() if each != door]
        for other in rejoining(house, door):
            if is_full(House(house.rooms(), kept + [other]), ledger):
                told.append((door, other))
    return told


def need_full(house, ledger):
    need_ledger(house, ledger)
    if not is_full(house, ledger):
        raise NotFull(ledger)


def sum_of(hours):
    return sum([hours[room] for room in hours])


def find_below(house, ledger):
    """Tell the least ledgers within a ledger."""
    return [least for least in least_ledgers(house) if all([least[room] <= ledger[room] for room in least])]


def find_spots(house, ledger):
    """Tell of all spots the pairs (how many hours are taken, rooms): none in a house of one room."""
    if len(house) == 1:
        return []
    inner = inner_rooms(house)
    # What each room has above its doors less one. A room alone is to have an hour less than that, but not below 0.
    over = {room: ledger[room] - len(house.near(room)) + 1 for room in house.rooms()}
    told = [(min(over[room] + 1, ledger[room]), [room]) for room in over]
    off = {room: doors_off(house, room) for room in inner}
    for one, other, third in combinations(inner, 3):
        if not is_way_of_three(off[one][other], off[other][third], off[one][third]):
            told.append((over[one] + over[other] + over[third], [one, other, third]))
    return told


def rejoining(house, door):
    """Tell the pairs of rooms, ascending, that join what a door joins, but for the door itself."""
    near = reach(house, door[0], [room for room in house.rooms() if room != door[1]])
    told = []
    for one, other in combinations(house.rooms(), 2):
        if (one in near) != (other in near) and (one, other) != door:
            told.append((one, other))
    return told
