"""When rooms are lit by the carryings of a ledger that lights all rooms."""

from lamplight.building import carrying_by, gone_again, least_passes
from lamplight.ends import find_lasts, first_lack, need_all_lit, need_ends
from lamplight.errors import BadWhen
from lamplight.houses import need_room
from lamplight.onelaw import spare_hours
from lamplight.ways import climb, towards

WORDS = ("soon", "late", "done soon", "done late")


def sure_parts(house, ledger, first, last):
    need_ends(house, ledger, first, last)
    if first_lack(house, ledger, first, last) is not None:
        return []
    steps = towards(house, first)
    through = climb(steps, last)[::-1]
    over = over_needs(house, ledger, through)
    cuts = [at for at in range(len(through)) if at == 0 or over[at - 1] == 0 or over[at] == 0]
    beyond = hours_beyond(ledger, steps)
    places = places_on(steps, through)
    told = []
    for at, end in zip(cuts, cuts[1:] + [len(through)]):
        hour = beyond[first] - beyond[through[at]]
        told.append((hour, [room for room in house.rooms() if at <= places[room] < end]))
    return told


def first_light(house, ledger, first, last, room):
    need_ends(house, ledger, first, last)
    need_room(house, room)
    return find_light(house, ledger, first, last, room)


def last_light(house, ledger, first, last, room):
    need_ends(house, ledger, first, last)
    need_room(house, room)
    span = find_light(house, ledger, last, first, room)
    if span is None:
        return None
    final = sum([ledger[name] for name in ledger]) - 1
    return (final - span[1], final - span[0])


def carrying_lit(house, ledger, first, last, room, when):
    need_ends(house, ledger, first, last)
    need_room(house, room)
    if when not in WORDS:
        raise BadWhen(when)
    if first_lack(house, ledger, first, last) is not None:
        return None
    # A room off the way is lit in one go with what lies behind it, one on the way is done as soon as can be anyway.
    if when in ("soon", "done soon"):
        return lit_soon(house, ledger, first, last, room)
    return lit_soon(house, ledger, last, first, room)[::-1]


def light_of_all(house, ledger, room):
    need_all_lit(house, ledger)
    need_room(house, room)
    spare = spare_hours(house, ledger)
    spans = []
    for first in house.rooms():
        steps = towards(house, first)
        beyond = hours_beyond(ledger, steps)
        for last in find_lasts(house, spare, first):
            spans.append(light_span(house, ledger, steps, beyond, last, room))
    if not spans:
        return None
    return (min([span[0] for span in spans]), max([span[1] for span in spans]))


def find_light(house, hours, first, last, room):
    if first_lack(house, hours, first, last) is not None:
        return None
    steps = towards(house, first)
    return light_span(house, hours, steps, hours_beyond(hours, steps), last, room)


def light_span(house, hours, steps, beyond, last, room):
    """Tell the least and the greatest hour of first light, of carryings from the root of steps to last."""
    through = climb(steps, last)[::-1]
    path = climb(steps, room)[::-1]
    over = over_needs(house, hours, through)
    return (soonest(through, over, beyond, path)[0], latest(through, over, beyond, path))


def hours_beyond(hours, steps):
    """Tell of each room the hours of it and of what it parts from the root of steps."""
    told = {room: hours[room] for room in steps}
    for room in reversed(list(steps)):
        if steps[room] is not None:
            told[steps[room]] += told[room]
    return told


def over_needs(house, hours, through):
    """Tell what each room of the way from first to last has above its need."""
    told = []
    for at, room in enumerate(through):
        need = len(house.near(room)) - 1 + (1 if at == 0 else 0) + (1 if at == len(through) - 1 else 0)
        told.append(hours[room] - need)
    return told


def places_on(steps, through):
    """Tell of each room the place at which the way to it leaves this way, both from the root of steps."""
    told = {}
    for room in steps:
        told[room] = through.index(room) if room in through else told[steps[room]]
    return told


def parting(through, path):
    """Tell the place of the last room that two ways from the same room have in common."""
    common = [at for at, pair in enumerate(zip(through, path)) if pair[0] == pair[1]]
    return common[-1]


def thrice_to(over, at, others):
    """Tell at, and those of the other places, in their order, to which the doors from at can be gone through thrice."""
    told = [at]
    enough = over[at] > 0
    for place in others:
        if not enough or over[place] == 0:
            break
        told.append(place)
        # A room between is stayed at twice more.
        enough = over[place] > 1
    return told


def soonest(through, over, beyond, path):
    """Tell the least hour of first light at the end of path, and the place from which the lamp goes to it straight."""
    at = parting(through, path)
    whole = beyond[through[0]]
    trials = []
    for place in thrice_to(over, at, list(range(at - 1, -1, -1))):
        trials.append((whole - beyond[through[place]] + len(path) - 1 - place, place))
    return min(trials)


def latest(through, over, beyond, path):
    """Tell the greatest hour of first light at the end of path."""
    at = parting(through, path)
    off = len(path) - 1 - at
    hour = beyond[through[0]] - beyond[path[-1]]
    if off == 0:
        return hour
    # Behind the room the lamp comes back to the way, and goes on to where it has not been, or to the last hour.
    sides = [beyond[room] for room in through] + [0]
    rest = [place - at + sides[place + 1] for place in thrice_to(over, at, list(range(at + 1, len(through))))]
    return hour - off - min(rest)


def lit_soon(house, hours, first, last, room):
    steps = towards(house, first)
    through = climb(steps, last)[::-1]
    path = climb(steps, room)[::-1]
    _, place = soonest(through, over_needs(house, hours, through), hours_beyond(hours, steps), path)
    counted = gone_again(least_passes(house, first, last), through[place:parting(through, path) + 1])
    early = {path[at]: [path[at + 1]] for at in range(place, len(path) - 1)}
    return carrying_by(house, hours, counted, first, last, early)
