"""[40]: carryings of so many hours."""

import unittest

from lamplight.counting import count_carryings
from lamplight.errors import BadHours
from lamplight.leastledgers import ledgers_with
from lamplight.rowcounts import count_lighting, count_rows
from tests.brute import (EXAMPLE, ONE_ROOM, SPIDER, TWO_ROOMS, any_objects, as_ledger, five_room_houses, great_houses,
                         ledger_rows, rows, small_houses, walks)
from tests.checks import Checks


def by_lit_rooms(house, hours):
    """How many carryings of so many hours there are, and how many of them light all rooms, hour by hour."""
    near = rows(house)
    ending = {((room,), room): 1 for room in near}
    for _ in range(hours - 1):
        further = {}
        for (lit, room), many in ending.items():
            for other in near[room] + [room]:
                key = (tuple(sorted(set(lit) | {other})), other)
                further[key] = further.get(key, 0) + many
        ending = further
    return sum(ending.values()), sum(many for (lit, _), many in ending.items() if len(lit) == len(house))


class RowCountsTest(Checks):
    def test_example(self):
        self.assertEqual(count_lighting(EXAMPLE, 5), 6)
        self.assertEqual(count_rows(EXAMPLE, 2), 10)

    def test_all_carryings_of_a_few_hours(self):
        cases = [(house, 8) for house in small_houses()] + [(house, 7) for house in five_room_houses()] + [(SPIDER, 7)]
        for house, most in cases:
            for hours in range(1, most + 1):
                there = walks(house, hours)
                self.assertEqual(count_rows(house, hours), len(there))
                self.assertEqual(count_lighting(house, hours), sum(len(set(walk)) == len(house) for walk in there))

    def test_the_sum_over_ledgers(self):
        for house in small_houses() + five_room_houses():
            most = 8
            full = [as_ledger(house, row) for row in ledger_rows(house, most) if 0 not in row]
            for hours in range(1, most + 1):
                counts = [count_carryings(house, ledger) for ledger in full if sum(ledger.values()) == hours]
                self.assertEqual(count_lighting(house, hours), sum(counts))
                self.assertEqual(ledgers_with(house, hours), sum(count > 0 for count in counts))

    def test_few_rooms(self):
        self.assertEqual([count_lighting(ONE_ROOM, hours) for hours in (1, 2, 40)], [1, 1, 1])
        self.assertEqual([count_rows(ONE_ROOM, hours) for hours in (1, 2, 40)], [1, 1, 1])
        self.assertEqual([count_lighting(TWO_ROOMS, hours) for hours in (1, 2, 3, 40)], [0, 2, 6, 2 ** 40 - 2])
        self.assertEqual([count_rows(TWO_ROOMS, hours) for hours in (1, 2, 40)], [2, 4, 2 ** 40])

    def test_bad_hours(self):
        wrong = [thing for thing in any_objects() if type(thing) is not int or thing < 1]
        for call in (count_lighting, count_rows):
            self.check_things(BadHours, wrong, call, EXAMPLE, None)

    def test_great_ones(self):
        for house in great_houses(10):
            self.assertEqual((count_rows(house, 40), count_lighting(house, 40)), by_lit_rooms(house, 40))


if __name__ == "__main__":
    unittest.main()
