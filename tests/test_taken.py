"""[58] to [61]: hours taken, rooms in which some are missing, spots, doors elsewhere."""

import random
import unittest
from itertools import combinations, product

from lamplight.added import is_full
from lamplight.errors import BadLedger, NotFull
from lamplight.taken import fewest_rooms, least_below, mending_doors, most_taken, strength, weak_spots
from tests.brute import (EXAMPLE, ONE_ROOM, SPIDER, TWO_ROOMS, all_houses, full_cases, full_rows, great_houses,
                         lie_on_one_way, random_house, row_house, rows, small_houses, star_house, three_arms)
from tests.checks import Checks, dark_ledgers, wrong_ledgers

ONES = {room: 1 for room in "abcd"}
RIGHT = {**ONES, "b": 4}


def items_of(ledger):
    return list(ledger.items())


def rows_within(ledger, full):
    return [row for row in full if all(after <= hours for after, hours in zip(row, ledger.values()))]


class TakenTest(Checks):
    def test_example(self):
        self.assertEqual(most_taken(EXAMPLE, RIGHT), 2)
        self.assertEqual(least_below(EXAMPLE, RIGHT), [{**ONES, "b": 2}])
        self.assertEqual(strength(EXAMPLE, RIGHT), 1)
        self.assertEqual(weak_spots(EXAMPLE, RIGHT), [["a"], ["c"], ["d"]])

    def test_all_that_can_be_taken(self):
        for house, ledger, full in full_cases(58, 900):
            if tuple(ledger.values()) not in full:
                for call in (most_taken, least_below, strength, weak_spots):
                    self.check_error(NotFull, {"thing": ledger}, call, house, ledger)
                continue
            below = rows_within(ledger, full)
            self.assertEqual(most_taken(house, ledger), sum(ledger.values()) - min(sum(row) for row in below))
            least = [row for row in below if not any(row != other and all(a <= b for a, b in zip(other, row))
                                                     for other in below)]
            expected = sorted([dict(zip(house.rooms(), row)) for row in least], key=items_of)
            told = least_below(house, ledger)
            self.assertEqual(told, expected)
            self.assertEqual([list(each) for each in told], [house.rooms()] * len(told))

    def test_all_rooms_that_are_to_be_changed(self):
        for house, ledger, full in full_cases(59, 600):
            # Other hours in some rooms, as many as one likes, are at best very many there.
            lots = []
            for many in range(len(house) + 1):
                for lot in combinations(house.rooms(), many):
                    if is_full(house, {room: 99 if room in lot else ledger[room] for room in ledger}):
                        lots.append(list(lot))
                if lots:
                    break
            self.assertEqual(fewest_rooms(house, ledger), sorted(lots), (house.doors(), ledger))

    def test_strength(self):
        dice = random.Random(60)
        for house in small_houses() + [star_house(list("dabce")), row_house(list("cadbe"))]:
            full = set(full_rows(house, 9))
            for row in dice.sample(sorted(full), min(len(full), 60)):
                ledger = dict(zip(house.rooms(), row))
                self.check_strength(house, ledger, full)

    def check_strength(self, house, ledger, full):
        row = tuple(ledger.values())
        # A ledger of no hours is none, but it is not full, too.
        less = [sum(row) - sum(after) for after in product(*[range(hours + 1) for hours in row])
                if after not in full and (len(house) > 1)]
        self.assertEqual(strength(house, ledger), min(less, default=None))
        self.assertEqual(weak_spots(house, ledger), self.spots_by_words(house, ledger, min(less, default=None)))

    def spots_by_words(self, house, ledger, least):
        near = rows(house)
        if len(house) == 1:
            return []
        told = [[room] for room in near if ledger[room] - max(0, len(near[room]) - 2) == least]
        inner = [room for room in near if len(near[room]) > 1]
        for three in combinations(inner, 3):
            if sum(ledger[room] - len(near[room]) + 1 for room in three) == least and not lie_on_one_way(house, three):
                told.append(list(three))
        return sorted(told)

    def test_strength_by_three_rooms(self):
        ledger = {**{room: 9 for room in SPIDER.rooms()}, "a1": 1, "a2": 2, "a3": 3}
        self.assertEqual(strength(SPIDER, {**ledger, "a1": 2}), 2)
        self.assertEqual(weak_spots(SPIDER, {**ledger, "a1": 2}), [["a1"], ["a2"]])
        self.assertEqual((strength(SPIDER, ledger), weak_spots(SPIDER, ledger)), (1, [["a1"]]))
        three = {**ledger, "a2": 1, "a3": 2}
        self.assertEqual((strength(SPIDER, three), weak_spots(SPIDER, three)), (1, [["a1"], ["a1", "a2", "a3"], ["a2"]]))
        for house, ledger, full in full_cases(61, 300):
            if tuple(ledger.values()) in full:
                least = strength(house, ledger)
                self.assertEqual(weak_spots(house, ledger), self.spots_by_words(house, ledger, least))

    def test_all_doors_elsewhere(self):
        houses = {tuple(sorted(names)): all_houses(list(names)) for names in ("a", "ab", "abc", "abcd", "abcde")}
        some = 0
        for house, ledger, full in full_cases(63, 300):
            if len(house) > 5:
                continue
            expected = []
            for other in houses[tuple(house.rooms())]:
                gone = [door for door in house.doors() if door not in other.doors()]
                if len(gone) == 1 and is_full(other, ledger):
                    new = [door for door in other.doors() if door not in house.doors()]
                    expected.append((gone[0], new[0]))
            self.assertEqual(mending_doors(house, ledger), sorted(expected))
            some += tuple(ledger.values()) not in full and expected != []
        self.assertGreater(some, 10)

    def test_few_rooms(self):
        self.assertEqual((most_taken(ONE_ROOM, {"a": 4}), least_below(ONE_ROOM, {"a": 4})), (3, [{"a": 1}]))
        self.assertEqual((strength(ONE_ROOM, {"a": 4}), weak_spots(ONE_ROOM, {"a": 4})), (None, []))
        self.assertEqual((fewest_rooms(ONE_ROOM, {"a": 4}), mending_doors(ONE_ROOM, {"a": 4})), ([[]], []))
        ledger = {"a": 2, "b": 3}
        self.assertEqual((most_taken(TWO_ROOMS, ledger), least_below(TWO_ROOMS, ledger)), (3, [{"a": 1, "b": 1}]))
        self.assertEqual((strength(TWO_ROOMS, ledger), weak_spots(TWO_ROOMS, ledger)), (2, [["a"]]))
        self.assertEqual(fewest_rooms(TWO_ROOMS, {"a": 0, "b": 1}), [["a"]])
        self.assertEqual(mending_doors(TWO_ROOMS, ledger), [])

    def test_errors(self):
        for thing in wrong_ledgers(ONES):
            for call in (most_taken, least_below, fewest_rooms, strength, weak_spots, mending_doors):
                self.check_error(BadLedger, {"thing": thing}, call, EXAMPLE, thing)
        for thing in [ONES] + dark_ledgers(RIGHT):
            for call in (most_taken, least_below, strength, weak_spots):
                self.check_error(NotFull, {"thing": thing}, call, EXAMPLE, thing)
            self.assertTrue(fewest_rooms(EXAMPLE, thing))
            self.assertEqual(type(mending_doors(EXAMPLE, thing)), list)

    def test_kept(self):
        for call in (most_taken, least_below, fewest_rooms, strength, weak_spots, mending_doors):
            self.check_kept(call, EXAMPLE, {"d": 2, "b": 4, "a": 1, "c": 1})
        for call in (fewest_rooms, mending_doors):
            self.check_kept(call, EXAMPLE, {"d": 0, "b": 1, "a": 1, "c": 1})

    def test_great_ones(self):
        for house in great_houses(30):
            near = rows(house)
            ledger = {room: 10 ** 8 + len(near[room]) for room in near}
            self.assertEqual(strength(house, ledger), min(10 ** 8 + min(len(near[room]), 2) for room in near))
            self.assertTrue(weak_spots(house, ledger))
            most = most_taken(house, ledger)
            self.assertGreater(most, 30 * 10 ** 8)
        for house in great_houses(12) + [random_house([f"r{k}" for k in range(12)], 9), three_arms((3, 4, 4))]:
            near = rows(house)
            ledger = {room: max(1, len(near[room]) - 1) for room in near}
            lots = fewest_rooms(house, ledger)
            self.assertEqual(len({len(lot) for lot in lots}), 1)
            for lot in lots:
                self.assertIs(is_full(house, {room: 10 ** 9 if room in lot else ledger[room] for room in ledger}), True)
            above = {room: hours + 2 for room, hours in ledger.items()}
            below = least_below(house, above)
            self.assertEqual(sum(above.values()) - most_taken(house, above), min(sum(b.values()) for b in below))
            self.assertTrue(all(is_full(house, each) for each in below))
            told = mending_doors(house, above)
            self.assertEqual(told, sorted(told))
            self.assertTrue(told)


if __name__ == "__main__":
    unittest.main()
