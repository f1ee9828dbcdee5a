"""Houses for the tests, any objects, and what carryings are by going through all of them one by one."""

import random
from itertools import combinations, product

from lamplight.errors import BadRooms, LampError
from lamplight.houses import House, beside

EXAMPLE = House(["a", "b", "c", "d"], [("a", "b"), ("b", "c"), ("b", "d")])
ONE_ROOM = House(["a"], [])
TWO_ROOMS = House(["a", "b"], [("a", "b")])
SPIDER = House(
    ["b1", "a1", "c", "a2", "b2", "a3", "b3"],
    [("c", "a1"), ("c", "a2"), ("c", "a3"), ("a1", "b1"), ("a2", "b2"), ("a3", "b3")],
)


def any_objects():
    """Things of each kind that the document calls any object, none of them of use to the tests' houses."""
    return [
        0, 1, 7, -1, 10 ** 20, True, False, "", "zz", "A", "a ", "a\n", "dark", None,
        [], (), ["zz"], ("a", 3), [["a"]], [None], {}, {"zz": 1}, {1: 2}, {"a": "a"},
        lambda *rest: None, len, beside, House(["zz"], []), EXAMPLE, LampError(), BadRooms(0),
    ]


def no_functions():
    return [thing for thing in any_objects() if not callable(thing)]


def rows(house):
    return {room: sorted({o for d in house.doors() for o in d if room in d and o != room}) for room in house.rooms()}


def row_house(names):
    return House(names, list(zip(names, names[1:])))


def star_house(names):
    return House(names, [(names[0], name) for name in names[1:]])


def random_house(names, seed):
    dice = random.Random(seed)
    return House(names, [(names[dice.randrange(k)], names[k]) for k in range(1, len(names))])


def all_houses(names):
    """All houses with these rooms: of all lots of doors those that join them."""
    pairs = list(combinations(sorted(names), 2))
    told = []
    for doors in combinations(pairs, len(names) - 1):
        try:
            told.append(House(names, doors))
        except LampError:
            continue
    return told


def small_houses():
    """All houses of up to three rooms, and of four and five rooms one or two of each shape."""
    told = [house for many in (1, 2, 3) for house in all_houses(["a", "b", "c"][:many])]
    told += [row_house(list("abcd")), row_house(list("cadb")), EXAMPLE, star_house(list("dabc"))]
    return told


def five_room_houses():
    forked = House(list("abcde"), [("c", "a"), ("c", "e"), ("c", "b"), ("b", "d")])
    return [row_house(list("bdaec")), star_house(list("cabde")), forked]


def great_houses(many=60):
    names = [f"r{k}" for k in range(many)]
    told = [row_house(names), star_house(names), random_house(names, 1), random_house(names, 2)]
    arm = (many - 1) // 3
    told.append(three_arms((many - 1 - 2 * arm, arm, arm)))
    return told


def great_ledger(house, hours):
    """A ledger of so many hours in all, each room having its doors and what is over shared out unevenly."""
    ledger = {room: len(near) for room, near in rows(house).items()}
    names = house.rooms()
    at = 0
    while sum(ledger.values()) < hours:
        ledger[names[at % len(names)]] += 1
        at += 7 if at % 3 else 1
    return ledger


def three_arms(lengths):
    """A middle room, and three rows of so many rooms."""
    doors = []
    for arm, length in zip("xyz", lengths):
        names = ["m"] + [f"{arm}{k}" for k in range(length)]
        doors += list(zip(names, names[1:]))
    return House(["m"] + [far for _, far in doors], doors)


def walks(house, hours):
    """All carryings of so many hours, as tuples, ascending."""
    near = rows(house)
    told = [(room,) for room in house.rooms()]
    for _ in range(hours - 1):
        told = [walk + (room,) for walk in told for room in sorted(near[walk[-1]] + [walk[-1]])]
    return told


def walks_to(house, most):
    return [walk for hours in range(1, most + 1) for walk in walks(house, hours)]


def carryings_of(house, ledger):
    """All carryings with a ledger, as tuples, ascending."""
    near = {room: sorted(others + [room]) for room, others in rows(house).items()}
    hours = sum(ledger.values())
    left = dict(ledger)
    told = []

    def go_on(walk):
        if len(walk) == hours:
            told.append(tuple(walk))
            return
        for room in near[walk[-1]] if walk else house.rooms():
            if left[room]:
                left[room] -= 1
                go_on(walk + [room])
                left[room] += 1

    go_on([])
    return told


def moves(walk):
    return sum(one != other for one, other in zip(walk, walk[1:]))


def random_ledgers(seed, many, rooms, hours):
    """Pairs of a house of some rooms and a ledger that lights all of them, most of them some carrying's."""
    dice = random.Random(seed)
    told = []
    while len(told) < many:
        names = [f"{sign}{k}" for k, sign in enumerate("hgfedcba"[:dice.choice(rooms)])]
        house = random_house(names, dice.randrange(10 ** 6))
        ledger = {room: max(1, len(near) - 1) for room, near in rows(house).items()}
        for _ in range(hours - sum(ledger.values())):
            ledger[dice.choice(names)] += 1
        if sum(ledger.values()) <= hours:
            told.append((house, ledger))
    return told


def hours_row(house, walk):
    return tuple(walk.count(room) for room in house.rooms())


def by_ledgers(house, most):
    """A dict from the rows of hours of all carryings of at most so many hours to these, ascending."""
    told = {}
    for walk in walks_to(house, most):
        told.setdefault(hours_row(house, walk), []).append(walk)
    return told


def ledger_rows(house, most):
    """The rows of hours of all ledgers of at most so many hours, ascending."""
    return [row for row in product(range(most + 1), repeat=len(house)) if 0 < sum(row) <= most]


def as_ledger(house, row):
    return dict(zip(house.rooms(), row))


def reached_rows(house, most):
    """The rows of hours of all carryings of at most so many hours, by which of them can be gone on with where."""
    near = rows(house)
    names = house.rooms()
    last = {(room, tuple(int(name == room) for name in names)) for room in names}
    told = {row for _, row in last}
    for _ in range(most - 1):
        further = set()
        for room, row in last:
            for other in near[room] + [room]:
                at = names.index(other)
                further.add((other, row[:at] + (row[at] + 1,) + row[at + 1:]))
        last = further
        told |= {row for _, row in last}
    return told


def walk_between(house, one, other):
    """The way from one to other, by trying all rows of unlike rooms."""
    near = rows(house)
    trials = [[one]]
    while trials:
        trial = trials.pop()
        if trial[-1] == other:
            return trial
        trials += [trial + [room] for room in near[trial[-1]] if room not in trial]
    raise AssertionError("no way")


def all_ways(house):
    return [walk_between(house, one, other) for one in house.rooms() for other in house.rooms()]


def lie_on_one_way(house, some):
    return any(set(some) <= set(rooms) for rooms in all_ways(house))


def papers(house, ledger):
    """All papers against a ledger, by their definition."""
    near = rows(house)
    lit = [room for room in house.rooms() if ledger[room]]
    less = {room: len([o for o in near[room] if o in lit]) - 1 for room in lit}
    told = []
    for one, other in combinations(lit, 2):
        told += [("dark", one, room, other) for room in walk_between(house, one, other) if room not in lit]
    told += [("lacks", room) for room in lit if ledger[room] < less[room]]
    short = [room for room in lit if ledger[room] == less[room]]
    told += [("apart",) + three for three in combinations(short, 3) if not lie_on_one_way(house, three)]
    return told


def reached_ends(house, most):
    """The rows of hours of all carryings of at most so many hours, by the pairs of first and last rooms that they have."""
    near = rows(house)
    names = house.rooms()
    ahead = {(room, room, tuple(int(name == room) for name in names)) for room in names}
    told = {}
    for _ in range(most):
        further = set()
        for first, room, row in ahead:
            told.setdefault(row, set()).add((first, room))
            for other in near[room] + [room]:
                at = names.index(other)
                further.add((first, other, row[:at] + (row[at] + 1,) + row[at + 1:]))
        ahead = further
    return told


def reached_passes(house, most, door):
    """The rows of hours of all carryings of at most so many hours, by how often these go through a door."""
    near = rows(house)
    names = house.rooms()
    ahead = {(room, tuple(int(name == room) for name in names), 0) for room in names}
    told = {}
    for _ in range(most):
        further = set()
        for room, row, many in ahead:
            told.setdefault(row, set()).add(many)
            for other in near[room] + [room]:
                at = names.index(other)
                through = many + (sorted((room, other)) == sorted(door))
                further.add((other, row[:at] + (row[at] + 1,) + row[at + 1:], through))
        ahead = further
    return told


def full_rows(house, most):
    """The rows of hours, of at most so many in all, of the carryings that light all rooms, ascending."""
    return sorted(row for row in reached_rows(house, most) if 0 not in row)


def full_cases(seed, many):
    """Triples of a house, a ledger, and the rows of all full ledgers of hours enough to make it full by each way."""
    dice = random.Random(seed)
    houses = [(house, 12) for house in small_houses() + five_room_houses()] + [(SPIDER, 13)]
    there = {id(house): full_rows(house, hours) for house, hours in houses}
    told = []
    while len(told) < many:
        house, hours = dice.choice(houses)
        near = rows(house)
        ledger = {room: dice.choice([0, 0, 1, 1, 1, 2, 2, 3, 5]) for room in house.rooms()}
        if any(ledger.values()) and sum(max(1, len(near[room]), ledger[room]) for room in near) <= hours:
            told.append((house, ledger, there[id(house)]))
    return told


def fewest_rows(house, most, carried):
    """By the rows of hours, of at most so many in all, that are sums of some carried rows: of how few at least."""
    told = {}
    ahead = {row for row in carried if sum(row) <= most}
    many = 1
    while ahead:
        for row in ahead:
            told[row] = many
        further = {tuple(a + b for a, b in zip(one, other)) for one in ahead for other in carried
                   if sum(one) + sum(other) <= most}
        ahead = {row for row in further if row not in told}
        many += 1
    return told
