"""Carryings that go through doors least often, or most often."""

from lamplight.building import carrying_by, least_passes
from lamplight.ends import find_ends, find_needs
from lamplight.ledgers import find_lit
from lamplight.onelaw import holds
from lamplight.otherhouses import part_with
from lamplight.ways import doors_off, towards


def stillest(house, ledger):
    if not holds(house, ledger):
        return None
    lit = part_with(house, find_lit(house, ledger))
    off = {first: doors_off(lit, first) for first in lit.rooms()}
    # Doors on the way from first to last are gone through once, all others twice.
    first, last = max(find_ends(lit, ledger), key=lambda pair: off[pair[0]][pair[1]])
    return carrying_by(lit, ledger, least_passes(lit, first, last), first, last, {})


def busiest(house, ledger):
    if not holds(house, ledger):
        return None
    lit = part_with(house, find_lit(house, ledger))
    steps = towards(lit, lit.rooms()[0])
    best = None
    for first, last in find_ends(lit, ledger):
        counted = most_passes(lit, ledger, steps, first, last)
        through = sum([counted[pair] for pair in counted])
        if best is None or through > best[0]:
            best = (through, first, last)
    _, first, last = best
    return carrying_by(lit, ledger, most_passes(lit, ledger, steps, first, last), first, last, {})


def most_passes(house, hours, steps, first, last):
    """Tell the passes of a carrying from first to last that goes through doors most often.

    From the leaves inward each door is gone through again as often as both its rooms have hours over: for what the
    outer one has over behind its other doors there is no use but this.
    """
    wanted = find_needs(house, first, last)
    over = {room: hours[room] - wanted[room] for room in wanted}
    counted = least_passes(house, first, last)
    for room in reversed(list(steps)):
        step = steps[room]
        if step is not None:
            more = min(over[room], over[step])
            over[step] -= more
            counted[(room, step)] += more
            counted[(step, room)] += more
    return counted
