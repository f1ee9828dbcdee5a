"""Ways without a common room, with as many doors together as can be, and the fewest hours of so many lamps.

Doors make such ways just if no room has three of them. What is reckoned from the rims inward are, by how many of its
doors a room has taken, towards its branches, and by how many ways of one door or more there are, the most doors.
"""

from lamplight.kinds import need_positive
from lamplight.ways import towards


def apart_ways(house, number):
    need_positive(number)
    if number > len(house):
        return None
    return find_ways(house, number)


def hours_for(house, number):
    need_positive(number)
    if number > len(house):
        return number
    doors = sum([len(rooms) - 1 for rooms in find_ways(house, number)])
    return 2 * len(house) - number - doors


def ledger_for(house, number):
    need_positive(number)
    hours = {room: 1 for room in house.rooms()}
    if number > len(house):
        hours[house.rooms()[0]] += number - len(house)
        return hours
    reached = [room for rooms in find_ways(house, number) for room in rooms]
    found = {room: True for room in reached}
    # Each room off the ways is gone to from one beside it that is lit by then, and come back from.
    while reached:
        room = reached.pop()
        for other in house.near(room):
            if other not in found:
                found[other] = True
                hours[room] += 1
                reached.append(other)
    return hours


def find_ways(house, number):
    """Tell so many ways, not more than there are rooms, the lesser end of each one first, ascending."""
    near = {room: [] for room in house.rooms()}
    for one, other in most_doors(house, number):
        near[one].append(other)
        near[other].append(one)
    doors = sum([len(near[room]) for room in near]) // 2
    drop_doors(near, doors - (len(house) - number))
    told = [way_from(near, room) for room in near if len(near[room]) == 1]
    told = [rooms for rooms in told if rooms[0] < rooms[-1]]
    alone = [[room] for room in near if len(near[room]) == 0]
    return sorted(told + alone[:number - len(told)])


def drop_doors(near, many):
    """Take so many doors from the ends of ways, as rooms are wanted for others; what is passed is used up."""
    left = many
    for end in list(near):
        room = end
        while left > 0 and len(near[room]) == 1:
            other = near[room].pop()
            near[other].remove(room)
            room = other
            left -= 1


def way_from(near, room):
    """Tell the rooms from the end of a way to its other end."""
    rooms = [room]
    further = near[room]
    while further:
        rooms.append(further[0])
        further = [other for other in near[rooms[-1]] if other != rooms[-2]]
    return rooms


def most_doors(house, number):
    """Tell as many doors as can be that make at most so many ways."""
    steps = towards(house, house.rooms()[0])
    tables = {}
    for room in reversed(list(steps)):
        table = {(0, 0): []}
        for other in house.near(room):
            if other != steps[room]:
                table = with_branch(table, tables[other], (room, other))
        tables[room] = table
    fitting = [doors for (_, ways), doors in tables[house.rooms()[0]].items() if ways <= number]
    return max(fitting, key=len)


def with_branch(table, behind, door):
    """Tell the table of a room, by (doors taken, ways), put together with that of a branch behind a door."""
    told = {}
    for taken, ways in table:
        for other, further in behind:
            doors = table[(taken, ways)] + behind[(other, further)]
            keep_more(told, (taken, ways + further), doors)
            if taken < 2 and other < 2:
                # A way more, but that one which ends at this room, and one which ends at the other, go on.
                joined = ways + further + 1 - taken - other
                keep_more(told, (taken + 1, joined), doors + [door])
    return told


def keep_more(told, state, doors):
    if state not in told or len(told[state]) < len(doors):
        told[state] = doors
