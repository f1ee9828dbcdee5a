"""[21]: least ledgers."""

import unittest
from itertools import product
from math import comb

from lamplight.carryings import is_carrying
from lamplight.errors import BadNumber
from lamplight.leastledgers import least_ledgers, ledgers_with, shortest_carrying
from lamplight.onelaw import holds
from tests.brute import (EXAMPLE, ONE_ROOM, SPIDER, TWO_ROOMS, any_objects, as_ledger, five_room_houses, great_houses,
                         great_ledger, hours_row, reached_rows, row_house, rows, small_houses, star_house,
                         walk_between)
from tests.checks import Checks


def within(one, other):
    return all(hours <= most for hours, most in zip(one, other))


def longest(house):
    """The doors of the longest way."""
    one = house.rooms()[0]
    for _ in range(2):
        ways = [walk_between(house, one, room) for room in house.rooms()]
        one = max(ways, key=len)[-1]
    return max(len(rooms) for rooms in ways) - 1


class LeastLedgersTest(Checks):
    def test_example(self):
        self.assertEqual(least_ledgers(EXAMPLE), [{"a": 1, "b": 2, "c": 1, "d": 1}])
        self.assertEqual([ledgers_with(EXAMPLE, hours) for hours in range(7)], [0, 0, 0, 0, 0, 1, 4])

    def test_all_ledgers_of_carryings(self):
        cases = [(house, 2 * len(house) + 2) for house in small_houses()]
        cases += [(house, 10) for house in five_room_houses()] + [(SPIDER, 11)]
        for house, most in cases:
            there = sorted(row for row in reached_rows(house, most) if 0 not in row)
            # Each least one has fewer hours than twice the rooms.
            least = [row for row in there if not any(within(other, row) for other in there if other != row)]
            told = least_ledgers(house)
            self.assertEqual([tuple(ledger.values()) for ledger in told], least)
            self.assertEqual([list(ledger) for ledger in told], [house.rooms()] * len(told))
            for hours in range(most + 1):
                self.assertEqual(ledgers_with(house, hours), sum(sum(row) == hours for row in there))
            self.check_shortest(house, min(sum(row) for row in there))

    def check_shortest(self, house, hours):
        carrying = shortest_carrying(house)
        self.assertIs(type(carrying), list)
        self.assertTrue(is_carrying(house, carrying))
        self.assertEqual(sorted(set(carrying)), house.rooms())
        self.assertEqual(len(carrying), hours)
        self.assertIn(as_ledger(house, hours_row(house, carrying)), least_ledgers(house))

    def test_more_than_a_least_one_is_some_carryings(self):
        for house in [EXAMPLE, row_house(list("cabd"))] + five_room_houses():
            least = [tuple(ledger.values()) for ledger in least_ledgers(house)]
            for row in product(range(1, 5), repeat=len(house)):
                self.assertEqual(holds(house, as_ledger(house, row)), any(within(one, row) for one in least))

    def test_few_rooms(self):
        self.assertEqual(least_ledgers(ONE_ROOM), [{"a": 1}])
        self.assertEqual(least_ledgers(TWO_ROOMS), [{"a": 1, "b": 1}])
        self.assertEqual(shortest_carrying(ONE_ROOM), ["a"])
        self.assertEqual(sorted(shortest_carrying(TWO_ROOMS)), ["a", "b"])
        self.assertEqual([ledgers_with(ONE_ROOM, hours) for hours in (0, 1, 2, 400)], [0, 1, 1, 1])
        self.assertEqual([ledgers_with(TWO_ROOMS, hours) for hours in (0, 1, 2, 400)], [0, 0, 1, 399])

    def test_by_the_lists_of_hours(self):
        told = least_ledgers(SPIDER)
        self.assertEqual([list(ledger.values()) for ledger in told],
                         [[1, 1, 2, 1, 1, 1, 2], [1, 2, 1, 1, 1, 1, 2], [2, 1, 1, 1, 1, 1, 2]])

    def test_bad_number(self):
        wrong = [thing for thing in any_objects() if type(thing) is not int or thing < 0]
        self.check_things(BadNumber, wrong, ledgers_with, EXAMPLE, None)

    def test_told_things_are_new(self):
        for call in (least_ledgers, shortest_carrying):
            for house in (SPIDER, ONE_ROOM):
                self.check_kept(call, house)

    def test_great_ones(self):
        for house in great_houses(60):
            carrying = shortest_carrying(house)
            self.assertTrue(is_carrying(house, carrying))
            self.assertEqual(len(set(carrying)), 60)
            self.assertEqual(len(carrying), 2 * 60 - 1 - longest(house))
            self.assertEqual([ledgers_with(house, len(carrying) - 1), ledgers_with(house, len(carrying)) > 0], [0, True])
            self.assertGreater(ledgers_with(house, 400), ledgers_with(house, 399))

    def test_great_ones_of_known_numbers(self):
        row, star = great_houses(60)[:2]
        self.assertEqual([ledgers_with(row, hours) for hours in (59, 60)], [0, 1])
        # One hour more stands in a leaf, or lets a lot of all inner rooms but one be short.
        self.assertEqual(ledgers_with(row, 61), 2 + 58)
        self.assertEqual([ledgers_with(star, hours) for hours in (116, 117, 118)], [0, 1, 59 + 1])
        self.assertEqual(ledgers_with(star, 400), comb(283 + 58, 58) + comb(282 + 59, 59))

    def test_least_ledgers_of_great_houses(self):
        for house in great_houses(40):
            inner = [room for room in house.rooms() if len(rows(house)[room]) > 1]
            outer = [room for room in inner if sum(near in inner for near in rows(house)[room]) <= 1]
            told = least_ledgers(house)
            hours = [list(ledger.values()) for ledger in told]
            self.assertEqual(hours, sorted(hours))
            self.assertEqual(len(told), len(outer) * (len(outer) - 1) // 2 if len(outer) > 1 else 1)
            self.assertTrue(all(holds(house, ledger) for ledger in told))
            ways = {tuple(room for room in inner if ledger[room] < len(rows(house)[room])) for ledger in told}
            expected = {tuple(sorted(walk_between(house, one, other))) for one in outer for other in outer
                        if one != other or len(outer) == 1}
            self.assertEqual(ways, expected)
            self.assertFalse(any(ledger == great_ledger(house, 300) for ledger in told))


if __name__ == "__main__":
    unittest.main()
