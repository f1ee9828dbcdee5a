"""[49]: the possible ledgers of a box, counted and numbered."""

import random
import unittest
from itertools import product

from lamplight.boxcounts import count_possible, index_of, kth_possible
from lamplight.boxes import is_possible
from lamplight.errors import BadBox, BadIndex, BadLedger
from lamplight.onelaw import holds
from tests.brute import (EXAMPLE, ONE_ROOM, TWO_ROOMS, any_objects, as_ledger, great_houses, random_house, rows,
                         star_house, three_arms)
from tests.checks import Checks, no_numbers, wrong_ledgers
from tests.test_boxes import random_boxes, wrong_boxes

WIDE = {**{room: (1, 1) for room in "acd"}, "b": (1, 4)}
NONE = {**WIDE, "b": (1, 1)}


class BoxCountsTest(Checks):
    def test_example(self):
        self.assertEqual(count_possible(EXAMPLE, WIDE), 3)
        self.assertEqual([kth_possible(EXAMPLE, WIDE, k)["b"] for k in range(3)], [2, 3, 4])

    def test_all_ledgers_of_boxes(self):
        none = 0
        for seed, most in ((41, 3), (42, 4), (43, 2)):
            for house, box, possible in random_boxes(seed, 250, 0, most):
                self.assertEqual(count_possible(house, box), len(possible))
                none += not possible
                for number, row in enumerate(possible):
                    ledger = as_ledger(house, row)
                    told = kth_possible(house, box, number)
                    self.assertEqual((told, list(told)), (ledger, house.rooms()))
                    self.assertEqual(index_of(house, box, ledger), number)
                self.check_error(BadIndex, {"thing": len(possible)}, kth_possible, house, box, len(possible))
        self.assertGreater(none, 50)

    def test_more_rooms(self):
        """Boxes near to what doors ask for, in houses with short rooms on ways of all kinds past the least room."""
        dice = random.Random(49)
        for seed in range(60):
            house = random_house(list("hgfedcba") if seed % 2 else list("cadgbhef"), seed)
            box = {}
            for room, near in rows(house).items():
                least = max(1, len(near) - dice.choice((1, 1, 1, 2)))
                box[room] = (least, least + (dice.choice((0, 1, 1, 2)) if len(near) > 1 else 0))
            lots = product(*[range(least, most + 1) for least, most in box.values()])
            possible = [row for row in lots if holds(house, as_ledger(house, row))]
            self.assertEqual(count_possible(house, box), len(possible), (house.doors(), box))
            for number in range(0, len(possible), 1 + len(possible) // 9):
                ledger = as_ledger(house, possible[number])
                self.assertEqual(kth_possible(house, box, number), ledger)
                self.assertEqual(index_of(house, box, ledger), number)

    def test_boxes_that_let_nothing(self):
        self.assertEqual(count_possible(EXAMPLE, NONE), 0)
        self.check_error(BadIndex, {"thing": 0}, kth_possible, EXAMPLE, NONE, 0)
        ledger = {room: 1 for room in "abcd"}
        self.check_error(BadLedger, {"thing": ledger}, index_of, EXAMPLE, NONE, ledger)
        star = star_house(list("mabcd"))
        self.assertEqual(count_possible(star, {**{room: (1, 1) for room in "abcd"}, "m": (1, 2)}), 0)
        apart = three_arms((3, 2, 2))
        tight = {room: (1, len(near) - 1 if len(near) > 1 else 9) for room, near in rows(apart).items()}
        self.assertEqual(count_possible(apart, tight), 0)

    def test_few_rooms(self):
        self.assertEqual(count_possible(ONE_ROOM, {"a": (3, 7)}), 5)
        self.assertEqual([kth_possible(ONE_ROOM, {"a": (3, 7)}, k) for k in (0, 4)], [{"a": 3}, {"a": 7}])
        self.assertEqual(index_of(ONE_ROOM, {"a": (3, 7)}, {"a": 5}), 2)
        box = {"a": (1, 2), "b": (2, 4)}
        self.assertEqual(count_possible(TWO_ROOMS, box), 6)
        self.assertEqual(kth_possible(TWO_ROOMS, box, 4), {"a": 2, "b": 3})

    def test_errors(self):
        for thing in wrong_boxes(WIDE) + [{**WIDE, room: (0, 5)} for room in WIDE]:
            for call in (kth_possible, index_of):
                self.check_error(BadBox, {"thing": thing}, call, EXAMPLE, thing, None)
            self.check_error(BadBox, {"thing": thing}, count_possible, EXAMPLE, thing)
        self.check_things(BadIndex, no_numbers(0) + [3, 4, 10 ** 9], kth_possible, EXAMPLE, WIDE, None)
        right = {"a": 1, "b": 2, "c": 1, "d": 1}
        wrong = wrong_ledgers(right) + [{**right, "b": hours} for hours in (0, 1, 5)] + [{**right, "a": 2}]
        for thing in wrong + any_objects():
            self.check_error(BadLedger, {"thing": thing}, index_of, EXAMPLE, WIDE, thing)
        self.assertEqual(index_of(EXAMPLE, WIDE, right), 0)

    def test_kept(self):
        box = {"d": (1, 2), "b": (1, 3), "a": (1, 2), "c": (1, 1)}
        self.check_kept(count_possible, EXAMPLE, box)
        self.check_kept(kth_possible, EXAMPLE, box, 5)
        self.check_kept(index_of, EXAMPLE, box, {"d": 2, "b": 2, "a": 1, "c": 1})

    def test_great_ones(self):
        for house in great_houses(30):
            near = rows(house)
            box = {room: (1, 100) for room in near}
            many = count_possible(house, box)
            fine = 1
            for room in near:
                fine *= 100 - max(1, len(near[room])) + 1
            self.assertGreater(many, fine)
            for number in (0, 1, many // 3, many // 2 + 5, many - 1):
                ledger = kth_possible(house, box, number)
                self.assertIs(is_possible(house, box, ledger), True)
                self.assertEqual(index_of(house, box, ledger), number)
            self.check_error(BadIndex, {"thing": many}, kth_possible, house, box, many)
        # In a row every room may be short.
        row = great_houses(30)[0]
        self.assertEqual(count_possible(row, {room: (1, 100) for room in row.rooms()}), 100 ** 30)


if __name__ == "__main__":
    unittest.main()
