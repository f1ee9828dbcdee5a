"""[56] and [57]: hours moved, and put in besides."""

import unittest

from lamplight.added import fewest_added, is_full
from lamplight.errors import BadLedger
from lamplight.moved import change_table, fewest_moved, least_sum, moved_ledger
from tests.brute import (EXAMPLE, ONE_ROOM, SPIDER, TWO_ROOMS, five_room_houses, full_cases, full_rows, great_houses,
                         row_house, rows, small_houses, star_house)
from tests.checks import Checks, wrong_ledgers

ONES = {room: 1 for room in "abcd"}


def taken_to(ledger, row):
    return sum(max(0, hours - after) for hours, after in zip(ledger.values(), row))


def moved_by_words(ledger, full, added):
    """The least number of hours moved, with so many put in, to one of some full rows, None if there is none."""
    whole = sum(ledger.values()) + added
    return min([taken_to(ledger, row) for row in full if sum(row) == whole], default=None)


class MovedTest(Checks):
    def test_example(self):
        self.assertEqual(least_sum(EXAMPLE), 5)
        self.assertIsNone(fewest_moved(EXAMPLE, ONES))
        self.assertIsNone(moved_ledger(EXAMPLE, ONES))
        self.assertEqual(change_table(EXAMPLE, ONES), [(1, 0)])
        self.assertEqual(fewest_moved(EXAMPLE, {**ONES, "a": 2}), 1)
        self.assertEqual(moved_ledger(EXAMPLE, {**ONES, "a": 2}), {**ONES, "b": 2})

    def test_least_sums(self):
        for house in small_houses() + five_room_houses() + [SPIDER]:
            self.assertEqual(least_sum(house), min(sum(row) for row in full_rows(house, 12)))

    def test_all_moves(self):
        several = 0
        for house, ledger, full in full_cases(57, 900):
            expected = moved_by_words(ledger, full, 0)
            self.assertEqual(fewest_moved(house, ledger), expected, (house.doors(), ledger))
            told = moved_ledger(house, ledger)
            if expected is None:
                self.assertIsNone(told)
                self.assertLess(sum(ledger.values()), least_sum(house))
            else:
                self.assertEqual(list(told), house.rooms())
                self.assertIn(tuple(told.values()), full)
                self.assertEqual(sum(told.values()), sum(ledger.values()))
                self.assertEqual(taken_to(ledger, tuple(told.values())), expected)
                self.assertGreaterEqual(expected, fewest_added(house, ledger))
            table = self.table_by_words(ledger, full)
            self.assertEqual(change_table(house, ledger), table, (house.doors(), ledger))
            several += len(table) > 2
            self.assertEqual(table[-1], (fewest_added(house, ledger), 0))
            moves = [moved for _, moved in table]
            self.assertEqual(moves, sorted(moves, reverse=True))
        self.assertGreater(several, 100)

    def table_by_words(self, ledger, full):
        added = 0
        while moved_by_words(ledger, full, added) is None:
            added += 1
        told = [(added, moved_by_words(ledger, full, added))]
        while told[-1][1] > 0:
            added += 1
            told.append((added, moved_by_words(ledger, full, added)))
        return told

    def test_few_rooms(self):
        self.assertEqual([least_sum(ONE_ROOM), least_sum(TWO_ROOMS)], [1, 2])
        self.assertEqual(fewest_moved(ONE_ROOM, {"a": 4}), 0)
        self.assertEqual(moved_ledger(ONE_ROOM, {"a": 4}), {"a": 4})
        self.assertEqual(change_table(ONE_ROOM, {"a": 4}), [(0, 0)])
        self.assertEqual(fewest_moved(TWO_ROOMS, {"a": 0, "b": 2}), 1)
        self.assertEqual(moved_ledger(TWO_ROOMS, {"a": 0, "b": 2}), {"a": 1, "b": 1})
        self.assertEqual(change_table(TWO_ROOMS, {"a": 0, "b": 2}), [(0, 1), (1, 0)])
        self.assertEqual(change_table(TWO_ROOMS, {"a": 0, "b": 1}), [(1, 0)])

    def test_full_ones_stay(self):
        ledger = {"a": 1, "b": 5, "c": 2, "d": 1}
        self.assertEqual(fewest_moved(EXAMPLE, ledger), 0)
        self.assertEqual(moved_ledger(EXAMPLE, ledger), ledger)
        self.assertEqual(change_table(EXAMPLE, ledger), [(0, 0)])

    def test_errors(self):
        for thing in wrong_ledgers(ONES):
            for call in (fewest_moved, moved_ledger, change_table):
                self.check_error(BadLedger, {"thing": thing}, call, EXAMPLE, thing)

    def test_kept(self):
        for ledger in ({"d": 0, "b": 1, "a": 5, "c": 0}, {"d": 0, "b": 1, "a": 1, "c": 0}):
            for call in (fewest_moved, moved_ledger, change_table):
                self.check_kept(call, EXAMPLE, ledger)
        self.check_kept(least_sum, EXAMPLE)

    def test_great_ones(self):
        for house in great_houses(30):
            near = rows(house)
            least = least_sum(house)
            leaf = next(room for room in house.rooms() if len(near[room]) == 1)
            ledger = {room: least if room == leaf else 0 for room in near}
            told = moved_ledger(house, ledger)
            self.assertIs(is_full(house, told), True)
            self.assertEqual((sum(told.values()), taken_to(ledger, told.values())), (least, least - 1))
            self.assertEqual(fewest_moved(house, ledger), least - 1)
            table = change_table(house, ledger)
            self.assertEqual((table[0], table[-1]), ((0, least - 1), (least - 1, 0)))
        high = {room: 10 ** 9 - 1 if room == "r0" else 0 for room in great_houses(30)[0].rooms()}
        self.assertEqual(fewest_moved(great_houses(30)[0], high), 29)
        self.assertEqual(least_sum(row_house([f"r{k}" for k in range(30)])), 30)
        self.assertEqual(least_sum(star_house([f"r{k}" for k in range(30)])), 57)


if __name__ == "__main__":
    unittest.main()
