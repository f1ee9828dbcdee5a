"""The carryings of a ledger in order: their numbers, and how many begin alike."""

from lamplight.carryings import need_carrying
from lamplight.counting import count_all_of, count_to
from lamplight.errors import BadNumber
from lamplight.goingon import all_left, can_go_on, comers, first_rest, need_begun
from lamplight.kinds import is_number
from lamplight.ledgers import hours_of, need_ledger


def carrying_at(house, ledger, number):
    need_ledger(house, ledger)
    if not is_number(number) or number >= count_all_of(house, ledger):
        raise BadNumber(number)
    left = all_left(house, ledger)
    rooms = []
    ahead = None
    # How many carryings with the same beginning are still ahead of the one that is looked for.
    rest = number
    for _ in range(sum([left[room] for room in left])):
        ahead, rest = next_by(house, left, ahead, rest)
        left[ahead] -= 1
        rooms.append(ahead)
    return rooms


def carrying_number(house, carrying):
    need_carrying(house, carrying)
    left = hours_of(house, carrying)
    ahead = None
    told = 0
    for room in carrying:
        told += sum([count_from(house, left, other) for other in comers(house, left, ahead) if other < room])
        left[room] -= 1
        ahead = room
    return told


def next_carrying(house, carrying):
    need_carrying(house, carrying)
    left = {room: 0 for room in house.rooms()}
    for place in reversed(range(len(carrying))):
        left[carrying[place]] += 1
        ahead = carrying[place - 1] if place > 0 else None
        for room in comers(house, left, ahead):
            if room > carrying[place] and can_go_on(house, left, room):
                left[room] -= 1
                return list(carrying[:place]) + [room] + first_rest(house, left, room)
    return None


def count_begun(house, ledger, begun):
    need_ledger(house, ledger)
    need_begun(house, ledger, begun)
    if len(begun) == 0:
        return count_all_of(house, ledger)
    left = all_left(house, ledger)
    for room in begun[:-1]:
        left[room] -= 1
    return count_from(house, left, begun[-1])


def count_from(house, left, room):
    """Tell how many carryings of the hours left, the present one among them, begin in room."""
    # Turned about they end there.
    return count_to(house, left, house.rooms(), room)


def next_by(house, left, ahead, number):
    """Tell the next room of the carrying with a number among all that go on so, and its number among those."""
    for room in comers(house, left, ahead):
        many = count_from(house, left, room)
        if number < many:
            break
        number -= many
    return room, number
