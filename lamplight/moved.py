"""Hours that are moved from room to room, or put in besides, to make a ledger full."""

from lamplight.added import most_on_way
from lamplight.ends import find_needs
from lamplight.leastledgers import inner_rooms
from lamplight.ledgers import need_ledger
from lamplight.ways import leaf_pairs


def least_sum(house):
    # A house of one room has no door, and wants an hour.
    return max(1, 2 * len(house.doors()) - most_on_way(house, inner_rooms(house)))


def fewest_moved(house, ledger):
    need_ledger(house, ledger)
    return min([lack for less, lack, _ in find_trials(house, ledger) if less <= 0], default=None)


def moved_ledger(house, ledger):
    need_ledger(house, ledger)
    trials = [(lack, wanted) for less, lack, wanted in find_trials(house, ledger) if less <= 0]
    if not trials:
        return None
    lack, wanted = min(trials, key=lambda trial: trial[0])
    told = {}
    for room in wanted:
        taken = min(lack, max(0, ledger[room] - wanted[room]))
        told[room] = max(ledger[room], wanted[room]) - taken
        lack -= taken
    return told


def change_table(house, ledger):
    need_ledger(house, ledger)
    trials = find_trials(house, ledger)
    added = max(0, min([less for less, _, _ in trials]))
    told = [(added, moved_besides(trials, added))]
    while told[-1][1] > 0:
        added += 1
        told.append((added, moved_besides(trials, added)))
    return told


def find_trials(house, ledger):
    """Tell by first and last room, leaves, what all hours are less than needed, what rooms lack, and their needs."""
    whole = sum([ledger[room] for room in ledger])
    told = []
    for first, last in leaf_pairs(house):
        wanted = find_needs(house, first, last)
        less = sum([wanted[room] for room in wanted]) - whole
        told.append((less, sum([max(0, wanted[room] - ledger[room]) for room in wanted]), wanted))
    return told


def moved_besides(trials, added):
    """Tell the least number of hours moved with so many put in, which are enough."""
    return max(0, min([lack for less, lack, _ in trials if less <= added]) - added)
