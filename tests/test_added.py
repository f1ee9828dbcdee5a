"""[52] to [54]: full ledgers, hours put in, prices of these."""

import random
import unittest

from lamplight.added import all_added, cheapest_added, fewest_added, is_full, wanted_hours
from lamplight.errors import BadLedger, BadPrices
from tests.brute import (EXAMPLE, ONE_ROOM, SPIDER, TWO_ROOMS, any_objects, as_ledger, five_room_houses, full_cases,
                         full_rows, great_houses, ledger_rows, row_house, rows, small_houses, three_arms)
from tests.checks import Checks, dark_ledgers, wrong_ledgers, wrong_prices

ONES = {room: 1 for room in "abcd"}
RIGHT = {**ONES, "b": 2}


def changes_of(house, ledger, full):
    """All changes, put in, that make a ledger one of some full rows."""
    told = []
    for row in full:
        after = as_ledger(house, row)
        if all(after[room] >= ledger[room] for room in after):
            told.append({room: after[room] - ledger[room] for room in after if after[room] > ledger[room]})
    return sorted(told, key=lambda change: list(change.items()))


class AddedTest(Checks):
    def test_example(self):
        self.assertEqual(wanted_hours(EXAMPLE, ONES), {"b": 2})
        self.assertEqual(fewest_added(EXAMPLE, ONES), 1)
        self.assertEqual(all_added(EXAMPLE, ONES), [{"b": 1}])
        self.assertEqual(cheapest_added(EXAMPLE, ONES, {**ONES, "b": 7}), (7, {"b": 1}))
        self.assertIs(is_full(EXAMPLE, RIGHT), True)

    def test_is_full(self):
        for house in small_houses() + five_room_houses():
            most = 9 if len(house) < 5 else 8
            full = set(full_rows(house, most))
            for row in ledger_rows(house, most):
                self.assertIs(is_full(house, as_ledger(house, row)), row in full)
        for thing in any_objects() + wrong_ledgers(RIGHT) + dark_ledgers(RIGHT):
            self.assertIs(is_full(EXAMPLE, thing), False)
        self.assertIs(is_full(EXAMPLE, {"d": 1, "c": 1, "b": 2, "a": 1}), True)

    def test_full_by_some_way(self):
        for house, ledger, full in full_cases(52, 300):
            near = rows(house)
            wanted = {room: max(1, len(near[room])) - ledger[room] for room in near}
            expected = {room: lack for room, lack in wanted.items() if lack > 0}
            told = wanted_hours(house, ledger)
            self.assertEqual((told, list(told)), (expected, sorted(expected)))

    def test_all_changes(self):
        dice = random.Random(53)
        for house, ledger, full in full_cases(53, 700):
            changes = changes_of(house, ledger, full)
            least = min(sum(change.values()) for change in changes)
            self.assertEqual(fewest_added(house, ledger), least)
            told = all_added(house, ledger)
            expected = [change for change in changes if sum(change.values()) == least]
            self.assertEqual(told, expected, (house.doors(), ledger))
            self.assertEqual([list(change) for change in told], [sorted(change) for change in told])
            prices = {room: dice.choice([1, 1, 2, 3, 9]) for room in house.rooms()}
            costs = [sum(change[room] * prices[room] for room in change) for change in changes]
            least, change = cheapest_added(house, ledger, prices)
            self.assertEqual((least, change), (min(costs), changes[costs.index(min(costs))]), (house.doors(), ledger))
            self.assertEqual(list(change), sorted(change))

    def test_more_hours_leave_full_ledgers_full(self):
        for house, ledger, full in full_cases(62, 200):
            self.assertEqual(fewest_added(house, ledger) == 0, is_full(house, ledger))
            if is_full(house, ledger):
                self.assertEqual(all_added(house, ledger), [{}])
                self.assertEqual(cheapest_added(house, ledger, {room: 3 for room in ledger}), (0, {}))
                for room in ledger:
                    self.assertIs(is_full(house, {**ledger, room: ledger[room] + 1}), True)

    def test_equal_prices_tell_the_first_change(self):
        # One of the three arms is left out, whichever: the change that comes first puts most in the least rooms.
        ledger = {**{room: 1 for room in SPIDER.rooms()}, "c": 3}
        told = all_added(SPIDER, ledger)
        self.assertEqual(told, [{"a1": 1}, {"a2": 1}, {"a3": 1}])
        self.assertEqual(cheapest_added(SPIDER, ledger, {room: 4 for room in ledger}), (4, {"a1": 1}))
        self.assertEqual(cheapest_added(SPIDER, ledger, {**{room: 4 for room in ledger}, "a3": 3}), (3, {"a3": 1}))

    def test_few_rooms(self):
        self.assertEqual([is_full(ONE_ROOM, {"a": hours}) for hours in (1, 5)], [True, True])
        self.assertEqual((wanted_hours(ONE_ROOM, {"a": 1}), fewest_added(ONE_ROOM, {"a": 1})), ({}, 0))
        self.assertEqual(wanted_hours(TWO_ROOMS, {"a": 0, "b": 3}), {"a": 1})
        self.assertEqual(all_added(TWO_ROOMS, {"a": 0, "b": 3}), [{"a": 1}])
        self.assertEqual(cheapest_added(TWO_ROOMS, {"a": 0, "b": 3}, {"a": 5, "b": 1}), (5, {"a": 1}))

    def test_errors(self):
        for thing in wrong_ledgers(ONES):
            for call in (wanted_hours, fewest_added, all_added):
                self.check_error(BadLedger, {"thing": thing}, call, EXAMPLE, thing)
            self.check_error(BadLedger, {"thing": thing}, cheapest_added, EXAMPLE, thing, None)
        self.check_things(BadPrices, wrong_prices(ONES), cheapest_added, EXAMPLE, RIGHT, None)

    def test_kept(self):
        ledger = {"d": 0, "b": 1, "a": 1, "c": 0}
        for call in (is_full, wanted_hours, fewest_added, all_added):
            self.check_kept(call, EXAMPLE, ledger)
        self.check_kept(cheapest_added, EXAMPLE, ledger, {"c": 3, "b": 2, "a": 1, "d": 1})

    def test_great_ones(self):
        for house in great_houses(30):
            near = rows(house)
            ledger = {room: 1 for room in near}
            prices = {room: 10 ** 8 + 7 * at for at, room in enumerate(sorted(near))}
            least, change = cheapest_added(house, ledger, prices)
            self.assertEqual(least, sum(prices[room] * more for room, more in change.items()))
            after = {room: ledger[room] + change.get(room, 0) for room in ledger}
            self.assertIs(is_full(house, after), True)
            self.assertEqual(sum(change.values()), fewest_added(house, ledger))
            self.assertEqual(wanted_hours(house, ledger), {r: len(near[r]) - 1 for r in ledger if len(near[r]) > 1})
        self.assertEqual(fewest_added(row_house([f"r{k}" for k in range(30)]), {f"r{k}": 1 for k in range(30)}), 0)
        high = {**{room: 10 ** 9 - 1 for room in "acd"}, "b": 1}
        self.assertEqual(fewest_added(EXAMPLE, high), 1)
        for house in great_houses(12):
            ledger = {room: int(at == 0) for at, room in enumerate(house.rooms())}
            told = all_added(house, ledger)
            self.assertEqual({sum(change.values()) for change in told}, {fewest_added(house, ledger)})
            self.assertEqual(len({str(change) for change in told}), len(told))
        arms = three_arms((3, 4, 4))
        # A way through two of the arms leaves the third one out, and all inner rooms want two.
        dark = {room: 3 * (len(near) > 2) for room, near in rows(arms).items()}
        self.assertEqual(len(all_added(arms, dark)), 1)


if __name__ == "__main__":
    unittest.main()
