"""[111], [112], and [116] on them: counters that are known of some doors, and how often doors can be gone through."""

import random
import unittest

from lamplight.busycarryings import busiest, stillest
from lamplight.errors import BadDoor, BadKnown, BadLedger, NoRoom
from lamplight.somecounted import moves_between, possible_counters, possible_moves
from tests.brute import (EXAMPLE, ONE_ROOM, SPIDER, TWO_ROOMS, any_objects, as_ledger, carryings_of, great_houses,
                         great_ledger, moves, random_house, random_ledgers, rows, small_houses, star_house)
from tests.checks import Checks, dark_ledgers, no_rooms, wrong_ledgers
from tests.test_doorcounts import COUNTED, LEDGER, counted_by, lit_by_ledgers, wrong_counted


def wrong_known(counted):
    """Things that are no dict from some doors to integers from 1 on."""
    return [thing for thing in wrong_counted(counted) if not isinstance(thing, dict) or not fits(counted, thing)]


def fits(counted, thing):
    return all(key in counted and type(thing[key]) is int and thing[key] > 0 for key in thing)


class SomeCountedTest(Checks):
    def test_example(self):
        self.assertEqual(possible_moves(EXAMPLE, LEDGER), [4, 5])
        self.assertEqual(moves_between(EXAMPLE, LEDGER, "a", "d"), [4])
        self.assertEqual(possible_counters(EXAMPLE, LEDGER, {}, ("a", "b")), [1, 2])

    def check_all(self, house, ledger, walked, dice):
        counted = [counted_by(house, walk) for walk in walked]
        for door in house.doors():
            self.assertEqual(possible_counters(house, ledger, {}, door), sorted({each[door] for each in counted}))
            for _ in range(4):
                some = [other for other in house.doors() if dice.random() < 0.5]
                known = {other: dice.choice(counted)[other] for other in some}
                if dice.random() < 0.2:
                    known = {other: dice.randrange(1, 5) for other in some}
                there = [each for each in counted if all(each[other] == known[other] for other in known)]
                told = possible_counters(house, ledger, known, door)
                self.assertEqual(told, sorted({each[door] for each in there}), (house.doors(), ledger, known, door))
        self.assertEqual(possible_moves(house, ledger), sorted({moves(walk) for walk in walked}))
        for first in house.rooms():
            for last in house.rooms():
                there = {moves(walk) for walk in walked if (walk[0], walk[-1]) == (first, last)}
                self.assertEqual(moves_between(house, ledger, first, last), sorted(there))

    def test_all_carryings(self):
        dice = random.Random(111)
        for house in small_houses() + [star_house(list("cabde"))]:
            there = lit_by_ledgers(house, 8 if len(house) < 5 else 9)
            for row in list(there)[::1 + len(there) // 40]:
                self.check_all(house, as_ledger(house, row), there[row], dice)

    def test_all_carryings_of_more_rooms(self):
        dice = random.Random(112)
        for house, ledger in random_ledgers(112, 16, (5, 6), 11):
            walked = carryings_of(house, ledger)
            if walked:
                self.check_all(house, ledger, walked, dice)

    def test_no_carrying(self):
        ledger = {"a": 1, "b": 1, "c": 1, "d": 1}
        self.assertEqual(possible_moves(EXAMPLE, ledger), [])
        self.assertEqual(moves_between(EXAMPLE, ledger, "a", "c"), [])
        self.assertEqual(possible_counters(EXAMPLE, ledger, {}, ("a", "b")), [])
        self.assertEqual(possible_counters(EXAMPLE, ledger, {("a", "b"): 1}, ("a", "b")), [])
        self.assertEqual(possible_counters(EXAMPLE, LEDGER, {("a", "b"): 9}, ("a", "b")), [])

    def test_few_rooms(self):
        self.assertEqual((possible_moves(ONE_ROOM, {"a": 3}), moves_between(ONE_ROOM, {"a": 3}, "a", "a")), ([0], [0]))
        ledger = {"a": 3, "b": 2}
        self.assertEqual(moves_between(TWO_ROOMS, ledger, "a", "b"), [1, 3])
        self.assertEqual(moves_between(TWO_ROOMS, ledger, "a", "a"), [2, 4])
        self.assertEqual(moves_between(TWO_ROOMS, ledger, "b", "b"), [2])
        self.assertEqual(possible_moves(TWO_ROOMS, ledger), [1, 2, 3, 4])
        self.assertEqual(possible_counters(TWO_ROOMS, ledger, {("a", "b"): 3}, ["a", "b"]), [3])

    def test_busy_and_still(self):
        """That moves go from those of the stillest carrying to those of the busiest one."""
        for seed in range(30):
            house = random_house(list("hgfedcba"), seed)
            ledger = great_ledger(house, 24)
            told = possible_moves(house, ledger)
            self.assertEqual((told[0], told[-1]), (moves(stillest(house, ledger)), moves(busiest(house, ledger))))

    def test_errors(self):
        ledgers = wrong_ledgers(LEDGER) + dark_ledgers(LEDGER)
        self.check_things(BadLedger, ledgers, possible_counters, EXAMPLE, None, 5, 5)
        self.check_things(BadLedger, ledgers, moves_between, EXAMPLE, None, 5, 5)
        self.check_things(BadLedger, ledgers, possible_moves, EXAMPLE, None)
        self.check_things(BadKnown, wrong_known(COUNTED), possible_counters, EXAMPLE, LEDGER, None, 5)
        doors = [("b", "a"), ("a", "c"), ("a", "b", "c"), ("a",), ["b", "c", "d"], ("a", "a"), "ab", ("a", ["b"])]
        self.check_things(BadDoor, any_objects() + doors, possible_counters, EXAMPLE, LEDGER, {}, None)
        self.check_things(BadDoor, any_objects(), possible_counters, ONE_ROOM, {"a": 1}, {}, None)
        for thing in no_rooms():
            self.check_error(NoRoom, {"thing": thing}, moves_between, EXAMPLE, LEDGER, thing, 5)
            self.check_error(NoRoom, {"thing": thing}, moves_between, EXAMPLE, LEDGER, "a", thing)

    def test_kept(self):
        ledger = {"d": 1, "c": 2, "b": 4, "a": 1}
        self.check_kept(possible_counters, EXAMPLE, ledger, {("b", "d"): 1, ("a", "b"): 1}, ("b", "c"))
        self.check_kept(moves_between, EXAMPLE, ledger, "a", "c")
        self.check_kept(possible_moves, EXAMPLE, ledger)

    def test_great_ones(self):
        for house in great_houses(20) + [SPIDER]:
            ledger = great_ledger(house, 400)
            near = rows(house)
            doors = house.doors()
            told = possible_moves(house, ledger)
            self.assertEqual(told, list(range(told[0], told[-1] + 1)))
            first, last = house.rooms()[0], house.rooms()[-1]
            between = moves_between(house, ledger, first, last)
            self.assertEqual(between, list(range(between[0], between[-1] + 1, 2)))
            self.assertLessEqual(set(between), set(told))
            known = {door: 2 for door in doors[1:]}
            told = possible_counters(house, ledger, known, doors[0])
            over = {room: ledger[room] - len(near[room]) for room in doors[0]}
            self.assertIn(2 + 2 * min(over.values()), told)
            self.assertEqual([many for many in told if many % 2 == 0], list(range(2, told[-1] + 1, 2)))


if __name__ == "__main__":
    unittest.main()
