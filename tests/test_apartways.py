"""[70], and [71] on it: ways without a common room, and the fewest hours of so many lamps."""

import unittest
from itertools import combinations

from lamplight.apartways import apart_ways, hours_for, ledger_for
from lamplight.carryings import is_carrying
from lamplight.errors import BadNumber
from lamplight.houses import House
from lamplight.leastledgers import shortest_carrying
from lamplight.onelaw import holds
from tests.brute import (EXAMPLE, ONE_ROOM, SPIDER, TWO_ROOMS, five_room_houses, great_houses, random_house, row_house,
                         rows, small_houses, star_house)
from tests.checks import Checks, no_numbers

CALLS = (apart_ways, hours_for, ledger_for)


def parted(house, number):
    """All lists of so many lists of rooms that hang together, each room in one of them."""
    told = []
    for shut in combinations(house.doors(), number - 1):
        left = [door for door in house.doors() if door not in shut]
        parts = []
        for room in house.rooms():
            part = [room]
            for one in part:
                part += [far for door in left if one in door for far in door if far not in part]
            if sorted(part) not in parts:
                parts.append(sorted(part))
        told.append(parts)
    return told


def house_of(house, part):
    return House(part, [door for door in house.doors() if set(door) <= set(part)])


def longest(house):
    """How many doors the longest way has, by trying all rows of doors."""
    near = rows(house)
    ahead = [(None, room) for room in house.rooms()]
    many = 0
    while True:
        ahead = [(room, far) for back, room in ahead for far in near[room] if far != back]
        if not ahead:
            return many
        many += 1


class ApartWaysTest(Checks):
    def test_example(self):
        told = apart_ways(SPIDER, 2)
        self.assertEqual(sum(len(rooms) - 1 for rooms in told), 5)
        self.assertEqual(hours_for(SPIDER, 2), 14 - 2 - 5)
        self.check_number(SPIDER, 2, 5)

    def check_ways(self, house, number, told):
        self.assertEqual((type(told), {type(rooms) for rooms in told}, len(told)), (list, {list}, number))
        gone = [room for rooms in told for room in rooms]
        self.assertEqual(len(gone), len(set(gone)))
        for rooms in told:
            self.assertTrue(is_carrying(house, rooms))

    def check_number(self, house, number, doors):
        told = apart_ways(house, number)
        self.check_ways(house, number, told)
        self.assertEqual(sum(len(rooms) - 1 for rooms in told), doors, (house.doors(), number))
        hours = hours_for(house, number)
        self.assertEqual(hours, 2 * len(house) - number - doors)
        ledger = ledger_for(house, number)
        self.assertEqual((list(ledger), sum(ledger.values())), (house.rooms(), hours))
        self.assertGreaterEqual(min(ledger.values()), 1)

    def test_all_numbers(self):
        houses = small_houses() + five_room_houses() + [SPIDER, star_house(list("gabcdef"))]
        houses += [random_house(list("hgfedcba"), seed) for seed in range(12)]
        for house in houses:
            for number in range(1, len(house) + 1):
                lots = [[house_of(house, part) for part in parts] for parts in parted(house, number)]
                # In each part of a parted house one way is used.
                self.check_number(house, number, max(sum(longest(part) for part in parts) for parts in lots))
                fewest = min(sum(len(shortest_carrying(part)) for part in parts) for parts in lots)
                self.assertEqual(hours_for(house, number), fewest)
                ledger = ledger_for(house, number)
                self.assertTrue(any(all(holds(part, {room: ledger[room] for room in part.rooms()}) for part in parts)
                                    for parts in lots), (house.doors(), number, ledger))

    def test_more_lamps_than_rooms(self):
        for house in small_houses() + five_room_houses():
            for number in range(len(house) + 1, len(house) + 4):
                self.assertIsNone(apart_ways(house, number))
                self.assertEqual(hours_for(house, number), number)
                ledger = ledger_for(house, number)
                self.assertEqual((list(ledger), sum(ledger.values())), (house.rooms(), number))
                self.assertGreaterEqual(min(ledger.values()), 1)

    def test_few_rooms(self):
        self.assertEqual([call(ONE_ROOM, 1) for call in CALLS], [[["a"]], 1, {"a": 1}])
        self.assertEqual([call(ONE_ROOM, 3) for call in CALLS], [None, 3, {"a": 3}])
        self.assertEqual([call(TWO_ROOMS, 1) for call in CALLS], [[["a", "b"]], 2, {"a": 1, "b": 1}])
        self.assertEqual([call(TWO_ROOMS, 2) for call in CALLS], [[["a"], ["b"]], 2, {"a": 1, "b": 1}])

    def test_errors(self):
        for call in CALLS:
            self.check_things(BadNumber, no_numbers(1), call, EXAMPLE, None)

    def test_kept(self):
        for call in CALLS:
            for number in (1, 2, 3, 4, 5):
                self.check_kept(call, EXAMPLE, number)

    def test_great_ones(self):
        for house in great_houses(30):
            for number in (1, 2, 7, 15, 29, 30):
                told = apart_ways(house, number)
                self.check_number(house, number, sum(len(rooms) - 1 for rooms in told))
            self.assertEqual(sum(len(rooms) - 1 for rooms in apart_ways(house, 1)), longest(house))
            self.assertEqual(hours_for(house, 1), len(shortest_carrying(house)))
            self.assertIsNone(apart_ways(house, 60))
            self.assertEqual(hours_for(house, 60), 60)
        self.check_number(row_house([f"r{k}" for k in range(30)]), 4, 26)
        self.check_number(star_house([f"r{k}" for k in range(30)]), 20, 2)
        # Six threes, each with a way through it, hung in a row by their middles.
        doors = [(f"m{k}", f"{far}{k}") for k in range(6) for far in "xy"]
        doors += [(f"m{k}", f"m{k + 1}") for k in range(5)]
        comb = House([f"{far}{k}" for far in "mxy" for k in range(6)], doors)
        self.check_number(comb, 6, 12)
        self.check_number(comb, 1, 7)
        self.check_number(comb, 3, 9)


if __name__ == "__main__":
    unittest.main()
