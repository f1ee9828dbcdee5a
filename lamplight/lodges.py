"""Several lamps that all begin in one room, the lodge.

The lead of a room is how many lamps end in its branch, seen from the lodge, as few as can be. With no lead behind it a
branch is gone to there and back; else so many lamps come, and stay in it.
"""

from lamplight.houses import need_room
from lamplight.kinds import need_positive
from lamplight.lamprows import there_and_back, waited_out
from lamplight.ledgers import find_parts, need_ledger
from lamplight.otherhouses import part_with
from lamplight.ways import climb, towards


def lodge_rows(house, ledger, room, number):
    need_ledger(house, ledger)
    need_room(house, room)
    need_positive(number)
    inside = lit_from(house, ledger, room)
    leads = find_leads(inside, ledger, room)
    if leads[room] is None:
        return None
    return cut_at(waited_out(least_rows(inside, ledger, room, leads), ledger), room, number)


def lodge_wanted(house, ledger, room):
    need_ledger(house, ledger)
    need_room(house, room)
    lead = find_leads(lit_from(house, ledger, room), ledger, room)[room]
    return None if lead is None else max(lead, 1)


def lodge_leads(house, ledger, room):
    need_ledger(house, ledger)
    need_room(house, room)
    leads = find_leads(lit_from(house, ledger, room), ledger, room)
    if leads[room] is None:
        return None
    return {other: leads[other] for other in sorted(leads) if other != room}


def lodge_short(house, ledger, room):
    need_ledger(house, ledger)
    need_room(house, room)
    inside = lit_from(house, ledger, room)
    if inside is None:
        return room
    leads = find_leads(inside, ledger, room)
    steps = towards(inside, room)
    short = []
    for other in inside.rooms():
        behind = [leads[further] for further in inside.near(other) if further != steps[other]]
        if leads[other] is None and None not in behind:
            short.append(other)
    return min(short, default=None)


def lit_from(house, hours, lodge):
    """Tell the house of the lit rooms, None if the lodge is none of these, or they do not hang together."""
    parts = find_parts(house, hours)
    if len(parts) > 1 or lodge not in parts[0]:
        return None
    return part_with(house, parts[0])


def find_leads(inside, hours, lodge):
    """Tell the leads of the lit rooms: None of those with too few hours, and of those ahead of them.

    Of a lodge from which the lit rooms cannot all be come to, which have no house then, its own is told alone.
    """
    if inside is None:
        return {lodge: None}
    steps = towards(inside, lodge)
    leads = {}
    for room in reversed(list(steps)):
        behind = [leads[other] for other in inside.near(room) if other != steps[room]]
        leads[room] = None if None in behind else lead_of(hours[room], behind)
    return leads


def lead_of(many, behind):
    """Tell the lead of a room by its hours and the leads of its branches, None if the hours are too few."""
    wanted = sum([max(lead, 1) for lead in behind])
    if many < wanted:
        return None
    if sum(behind) > 0:
        return sum(behind)
    return 1 if many == wanted else 0


def least_rows(inside, hours, lodge, leads):
    """Tell rows for as few lamps as can be, without the hours that are waited."""
    steps = towards(inside, lodge)
    # Whether some lamp ends in a room's branch: to the other branches one goes and comes back.
    ended = {lodge: True}
    lasts = []
    again = []
    for room in steps:
        behind = [other for other in inside.near(room) if other != steps[room]]
        for other in behind:
            ended[other] = leads[other] > 0
        if not ended[room]:
            again.append((steps[room], room))
        elif not any([ended[other] for other in behind]):
            # One lamp alone comes here, and ends here if the hours let it come back from all branches.
            if hours[room] > len(behind):
                lasts.append(room)
            else:
                ended[behind[0]] = True
    return there_and_back([climb(steps, last)[::-1] for last in lasts], again)


def cut_at(rows, lodge, number):
    """Tell so many rows, by cutting ahead of hours in the lodge, None if that cannot be."""
    cuts = number - len(rows)
    told = []
    for row in rows:
        told.append([row[0]])
        for room in row[1:]:
            if room == lodge and cuts > 0:
                cuts -= 1
                told.append([room])
            else:
                told[-1].append(room)
    return told if cuts == 0 else None
