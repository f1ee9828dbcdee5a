"""[68], and [71] on it: several lamps that each end where they begin."""

import random
import unittest
from itertools import combinations

from lamplight.carryings import is_carrying
from lamplight.errors import BadLedger, BadNumber
from lamplight.roundlamps import round_rows, round_wanted
from tests.brute import (EXAMPLE, ONE_ROOM, SPIDER, TWO_ROOMS, as_ledger, fewest_rows, five_room_houses, great_houses,
                         great_ledger, ledger_rows, random_house, reached_ends, row_house, rows, small_houses,
                         star_house)
from tests.checks import Checks, no_numbers, wrong_ledgers

RIGHT = {"a": 1, "b": 2, "c": 0, "d": 3}


def wanted_by_doors(house, ledger):
    """One more for each lit part than the fewest doors to be shut, all lots of doors being tried."""
    lit = [room for room in house.rooms() if ledger[room]]
    doors = [door for door in house.doors() if set(door) <= set(lit)]
    for many in range(len(doors) + 1):
        for shut in combinations(doors, many):
            near = {room: [] for room in lit}
            for one, other in doors:
                if (one, other) not in shut:
                    near[one].append(other)
                    near[other].append(one)
            if all(len(near[room]) <= ledger[room] for room in lit) and all_spare(near, ledger):
                return len(lit) - len(doors) + many
    raise AssertionError("all doors can be shut")


def all_spare(near, ledger):
    """Whether from each room doors lead to one with fewer doors than hours."""
    found = {room for room in near if len(near[room]) < ledger[room]}
    while any(room not in found and set(near[room]) & found for room in near):
        found |= {room for room in near if set(near[room]) & found}
    return len(found) == len(near)


class RoundLampsTest(Checks):
    def test_example(self):
        ledger = {**{room: 1 for room in SPIDER.rooms()}, "c": 2}
        self.assertEqual(round_wanted(SPIDER, ledger), 6)
        self.check_rows(SPIDER, ledger, 6, round_rows(SPIDER, ledger, 6))

    def check_rows(self, house, ledger, number, told):
        self.assertEqual((type(told), {type(row) for row in told}, len(told)), (list, {list}, number))
        self.assertTrue(all(is_carrying(house, row) and row[0] == row[-1] for row in told))
        self.assertEqual({room: sum(row.count(room) for row in told) for room in house.rooms()}, ledger)

    def test_all_ledgers(self):
        cases = [(house, 8 if len(house) < 4 else 7) for house in small_houses()]
        cases += [(house, 6) for house in five_room_houses()]
        for house, most in cases:
            walked = reached_ends(house, most)
            back = {row for row, pairs in walked.items() if any(first == last for first, last in pairs)}
            fewest = fewest_rows(house, most, back)
            for row in ledger_rows(house, most):
                ledger = as_ledger(house, row)
                self.assertEqual(round_wanted(house, ledger), fewest[row], (house.doors(), ledger))
                for number in range(1, sum(row) + 2):
                    told = round_rows(house, ledger, number)
                    if fewest[row] <= number <= sum(row):
                        self.check_rows(house, ledger, number, told)
                    else:
                        self.assertIsNone(told)

    def test_doors_to_be_shut(self):
        dice = random.Random(68)
        for seed in range(300):
            house = SPIDER if seed % 10 == 0 else random_house(list("fedcbahg"), seed)
            ledger = {room: dice.choice([0, 1, 1, 1, 2, 2, 3]) for room in house.rooms()}
            if any(ledger.values()):
                wanted = wanted_by_doors(house, ledger)
                self.assertEqual(round_wanted(house, ledger), wanted, (house.doors(), ledger))
                self.check_rows(house, ledger, wanted, round_rows(house, ledger, wanted))
                self.check_rows(house, ledger, sum(ledger.values()), round_rows(house, ledger, sum(ledger.values())))

    def test_few_rooms(self):
        self.assertEqual(round_wanted(ONE_ROOM, {"a": 3}), 1)
        self.assertEqual(round_rows(ONE_ROOM, {"a": 3}, 1), [["a", "a", "a"]])
        self.check_rows(ONE_ROOM, {"a": 3}, 2, round_rows(ONE_ROOM, {"a": 3}, 2))
        self.assertIsNone(round_rows(ONE_ROOM, {"a": 3}, 4))
        self.assertEqual([round_wanted(TWO_ROOMS, {"a": one, "b": other}) for one, other in
                          ((1, 1), (2, 1), (1, 3), (0, 4), (1, 0))], [2, 1, 1, 1, 1])
        self.assertEqual(round_rows(TWO_ROOMS, {"a": 2, "b": 1}, 1), [["a", "b", "a"]])
        self.assertIsNone(round_rows(TWO_ROOMS, {"a": 1, "b": 1}, 1))

    def test_parts_want_by_themselves(self):
        row = row_house(list("abcdefg"))
        ledger = {"a": 2, "b": 1, "c": 0, "d": 1, "e": 1, "f": 0, "g": 5}
        self.assertEqual(round_wanted(row, ledger), 4)
        self.check_rows(row, ledger, 4, round_rows(row, ledger, 4))
        self.assertIsNone(round_rows(row, ledger, 3))

    def test_errors(self):
        self.check_things(BadLedger, wrong_ledgers(RIGHT), round_wanted, EXAMPLE, None)
        self.check_things(BadLedger, wrong_ledgers(RIGHT), round_rows, EXAMPLE, None, 0)
        self.check_things(BadNumber, no_numbers(1), round_rows, EXAMPLE, RIGHT, None)

    def test_kept(self):
        ledger = {"d": 1, "b": 3, "a": 1, "c": 2}
        self.check_kept(round_wanted, EXAMPLE, ledger)
        for number in (1, 2, 3, 4, 8):
            self.check_kept(round_rows, EXAMPLE, ledger, number)

    def test_great_ones(self):
        for house in great_houses(60):
            near = rows(house)
            ledger = {room: hours + 1 for room, hours in great_ledger(house, 340).items()}
            self.assertEqual(round_wanted(house, ledger), 1)
            ones = {room: 1 for room in near}
            number = round_wanted(house, ones)
            self.assertGreaterEqual(number, 30)
            self.check_rows(house, ones, 60, round_rows(house, ones, 60))
            self.check_rows(house, ones, number, round_rows(house, ones, number))
            self.assertIsNone(round_rows(house, ones, number - 1))
        star = star_house([f"r{k}" for k in range(60)])
        self.assertEqual(round_wanted(star, {room: 30 if room == "r0" else 1 for room in star.rooms()}), 31)
        row = row_house([f"r{k}" for k in range(30)])
        twos = {room: 2 for room in row.rooms()}
        for number in (1, 17, 60):
            self.check_rows(row, twos, number, round_rows(row, twos, number))


if __name__ == "__main__":
    unittest.main()
