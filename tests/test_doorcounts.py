"""[109], [110], and [116] on them: counters of doors."""

import unittest
from itertools import product

from lamplight.carryings import is_carrying
from lamplight.doorcounts import counted_carrying, counted_ends, counters, ends_by_counters, odd_rooms
from lamplight.errors import BadCarrying, BadCounted, BadLedger
from lamplight.ledgers import ledger_of
from tests.brute import (EXAMPLE, ONE_ROOM, SPIDER, TWO_ROOMS, any_objects, as_ledger, by_ledgers, great_houses,
                         great_ledger, row_house, rows, small_houses, star_house)
from tests.checks import Checks, dark_ledgers, wrong_ledgers
from tests.test_entrystamps import CARRYING

LEDGER = {"a": 1, "b": 3, "c": 1, "d": 1}
COUNTED = {("a", "b"): 1, ("b", "c"): 2, ("b", "d"): 1}
BY_LEDGER = (ends_by_counters, counted_carrying)


def counted_by(house, walk):
    told = dict.fromkeys(house.doors(), 0)
    for one, other in zip(walk, walk[1:]):
        if one != other:
            told[tuple(sorted((one, other)))] += 1
    return told


def wrong_counted(counted):
    """Things that are no dict from just all doors to integers from 1 on."""
    told = any_objects()
    for door in counted:
        told += [{**counted, door: wrong} for wrong in (0, -1, True, None, "1", [1])]
        told.append({each: counted[each] for each in counted if each != door})
        told.append({each if each != door else door[::-1]: counted[each] for each in counted})
        told.append({each if each != door else (door[0], "zz"): counted[each] for each in counted})
    return told + [{**counted, ("a", "zz"): 1}, {**counted, "a": 1}, list(counted.items())]


def lit_by_ledgers(house, most):
    """A dict from the ledgers of at most so many hours, rows that light all rooms, to their carryings."""
    found = by_ledgers(house, most)
    return {row: found[row] for row in found if 0 not in row}


class DoorCountsTest(Checks):
    def test_example(self):
        self.assertEqual(counters(EXAMPLE, CARRYING), COUNTED)
        self.assertEqual(odd_rooms(EXAMPLE, COUNTED), ["a", "d"])
        self.assertEqual(counted_ends(EXAMPLE, COUNTED), [("a", "d"), ("d", "a")])

    def test_all_carryings(self):
        none = 0
        for house in small_houses() + [star_house(list("cabde"))]:
            pairs = {}
            most = 8 if len(house) < 5 else 9
            for row, walked in lit_by_ledgers(house, most).items():
                with_ledger = {}
                for walk in walked:
                    counted = counted_by(house, walk)
                    self.assertEqual(counters(house, walk), counted)
                    key = tuple(counted.values())
                    with_ledger.setdefault(key, set()).add((walk[0], walk[-1]))
                    pairs.setdefault(key, set()).add((walk[0], walk[-1]))
                ledger = as_ledger(house, row)
                for many in product((1, 2, 3), repeat=len(house) - 1):
                    counted = dict(zip(house.doors(), many))
                    there = sorted(with_ledger.get(many, set()))
                    self.assertEqual(ends_by_counters(house, ledger, counted), there)
                    self.check_carrying(house, ledger, counted, there)
                    none += not there
            for key in pairs:
                if sum(key) < most - 1:
                    self.assertEqual(counted_ends(house, dict(zip(house.doors(), key))), sorted(pairs[key]))
        self.assertGreater(none, 500)

    def check_carrying(self, house, ledger, counted, there):
        told = counted_carrying(house, ledger, counted)
        self.assertEqual(told is None, not there)
        if there:
            self.assertIs(is_carrying(house, told), True)
            self.assertEqual((ledger_of(house, told), counted_by(house, told)), (ledger, counted))
            self.assertIn((told[0], told[-1]), there)

    def test_just_one(self):
        """Pairs, or three odd rooms, then four at least: with much more hours each pair's carrying is there."""
        for house in small_houses() + [star_house(list("cabde")), row_house(list("bdaec"))]:
            near = rows(house)
            for many in product((1, 2, 3, 4), repeat=len(house) - 1):
                counted = dict(zip(house.doors(), many))
                odd = [room for room in near if sum(counted[door] % 2 for door in counted if room in door) % 2]
                self.assertEqual(odd_rooms(house, counted), odd)
                pairs = counted_ends(house, counted)
                self.assertEqual(pairs == [], len(odd) > 2)
                self.assertNotEqual(len(odd), 3)
                much = {room: 20 for room in near}
                self.assertEqual(ends_by_counters(house, much, counted), pairs)
                self.check_carrying(house, much, counted, pairs)

    def test_few_rooms(self):
        self.assertEqual((counters(ONE_ROOM, ["a", "a"]), odd_rooms(ONE_ROOM, {})), ({}, []))
        self.assertEqual(counted_ends(ONE_ROOM, {}), [("a", "a")])
        self.assertEqual([call(ONE_ROOM, {"a": 2}, {}) for call in BY_LEDGER], [[("a", "a")], ["a", "a"]])
        self.assertEqual(counted_ends(TWO_ROOMS, {("a", "b"): 4}), [("a", "a"), ("b", "b")])
        self.assertEqual(ends_by_counters(TWO_ROOMS, {"a": 2, "b": 3}, {("a", "b"): 4}), [("b", "b")])

    def test_errors(self):
        self.check_error(BadCarrying, {"index": 3}, counters, EXAMPLE, ["a", "b", "c", "d"])
        for thing in any_objects():
            self.check_error(BadCarrying, {"index": 0}, counters, EXAMPLE, [thing, "a"])
        self.check_error(BadCarrying, {"index": 0}, counters, EXAMPLE, ["a", "b", "d"])
        for call in (odd_rooms, counted_ends):
            self.check_things(BadCounted, wrong_counted(COUNTED), call, EXAMPLE, None)
            self.check_things(BadCounted, [thing for thing in any_objects() if thing != {}], call, ONE_ROOM, None)
        for call in BY_LEDGER:
            self.check_things(BadLedger, wrong_ledgers(LEDGER) + dark_ledgers(LEDGER), call, EXAMPLE, None, 5)
            self.check_things(BadCounted, wrong_counted(COUNTED), call, EXAMPLE, LEDGER, None)

    def test_kept(self):
        counted = {("b", "d"): 1, ("b", "c"): 2, ("a", "b"): 1}
        ledger = {"d": 1, "c": 1, "b": 3, "a": 1}
        self.check_kept(counters, EXAMPLE, CARRYING)
        for call in (odd_rooms, counted_ends):
            self.check_kept(call, EXAMPLE, counted)
        for call in BY_LEDGER:
            self.check_kept(call, EXAMPLE, ledger, counted)

    def test_great_ones(self):
        for house in great_houses(40) + [SPIDER]:
            ledger = great_ledger(house, 400)
            doors = house.doors()
            near = rows(house)
            for more in (0, 1):
                counted = {door: 2 for door in doors}
                for door in doors[:more]:
                    counted[door] = 3
                pairs = ends_by_counters(house, ledger, counted)
                told = counted_carrying(house, ledger, counted)
                self.assertEqual(counters(house, told), counted)
                self.assertIn((told[0], told[-1]), pairs)
                self.assertEqual(ledger_of(house, told), ledger)
            hundred = {door: 100 for door in doors}
            self.assertEqual(ends_by_counters(house, {room: 50 * len(near[room]) for room in near}, hundred), [])
            over = {room: 50 * len(near[room]) + 1 for room in near}
            self.assertEqual(ends_by_counters(house, over, hundred), [(room, room) for room in near])


if __name__ == "__main__":
    unittest.main()
