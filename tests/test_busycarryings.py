"""[22]: still and busy carryings."""

import unittest

from lamplight.busycarryings import busiest, stillest
from lamplight.errors import BadLedger
from lamplight.onelaw import claim_fault
from tests.brute import (EXAMPLE, ONE_ROOM, TWO_ROOMS, as_ledger, by_ledgers, carryings_of, five_room_houses,
                         great_houses, great_ledger, ledger_rows, moves, random_ledgers, row_house, small_houses,
                         star_house)
from tests.checks import Checks, wrong_ledgers


class BusyTest(Checks):
    def check(self, house, ledger, there):
        for call, pick in ((stillest, min), (busiest, max)):
            told = call(house, ledger)
            if there:
                self.assertIs(type(told), list)
                self.assertIn(tuple(told), there)
                self.assertEqual(moves(told), pick(moves(walk) for walk in there), (house.doors(), ledger))
            else:
                self.assertIsNone(told)

    def test_all_ledgers_of_a_few_hours(self):
        for house, most in [(house, 8) for house in small_houses()] + [(house, 7) for house in five_room_houses()]:
            there = by_ledgers(house, most)
            for row in ledger_rows(house, most):
                self.check(house, as_ledger(house, row), there.get(row, []))

    def test_greater_houses(self):
        for house, ledger in random_ledgers(1, 60, (6, 7), 13):
            self.check(house, ledger, carryings_of(house, ledger))

    def test_few_rooms(self):
        self.assertEqual(stillest(ONE_ROOM, {"a": 3}), ["a", "a", "a"])
        self.assertEqual(busiest(ONE_ROOM, {"a": 3}), ["a", "a", "a"])
        self.assertEqual(moves(stillest(TWO_ROOMS, {"a": 200, "b": 200})), 1)
        self.assertEqual(moves(busiest(TWO_ROOMS, {"a": 200, "b": 200})), 399)
        self.assertEqual(moves(busiest(TWO_ROOMS, {"a": 200, "b": 190})), 380)
        self.assertEqual(busiest(TWO_ROOMS, {"a": 0, "b": 2}), ["b", "b"])

    def test_none(self):
        for ledger in ({"a": 1, "b": 1, "c": 1, "d": 1}, {"a": 1, "b": 0, "c": 1, "d": 0}):
            self.assertIsNone(stillest(EXAMPLE, ledger))
            self.assertIsNone(busiest(EXAMPLE, ledger))

    def test_bad_ledger(self):
        wrong = wrong_ledgers({"a": 1, "b": 2, "c": 1, "d": 1})
        for call in (stillest, busiest):
            self.check_things(BadLedger, wrong, call, EXAMPLE, None)

    def test_kept(self):
        for call in (stillest, busiest):
            self.check_kept(call, EXAMPLE, {"a": 2, "b": 5, "c": 3, "d": 0})
            self.check_kept(call, EXAMPLE, {"d": 2, "b": 1, "c": 3, "a": 4})

    def test_great_ones(self):
        for house in great_houses(60):
            ledger = great_ledger(house, 400)
            told = stillest(house, ledger)
            self.assertIsNone(claim_fault(house, ledger, told))
        for house in great_houses(20):
            ledger = great_ledger(house, 400)
            told = busiest(house, ledger)
            self.assertIsNone(claim_fault(house, ledger, told))
            self.assertGreaterEqual(moves(told), moves(stillest(house, ledger)))

    def test_great_ones_of_known_moves(self):
        names = [f"r{k}" for k in range(20)]
        row = row_house(names)
        self.assertEqual(moves(stillest(row, {room: 20 for room in names})), 19)
        self.assertEqual(moves(busiest(row, {room: 20 for room in names})), 399)
        star = star_house(names)
        ledger = {room: 200 if room == "r0" else 1 for room in names}
        self.assertEqual(moves(stillest(star, ledger)), 2 * 19 - 2)
        self.assertEqual(moves(busiest(star, ledger)), 2 * 19)
        ledger = {room: 18 if room == "r0" else 20 for room in names}
        self.assertEqual(moves(busiest(star, ledger)), 36)
        ledger = {room: 190 if room == "r0" else 11 for room in names}
        self.assertEqual(moves(busiest(star, ledger)), 380)


if __name__ == "__main__":
    unittest.main()
