"""[48]: boxes of which the hours of some lots of rooms are known together."""

import random
import unittest
from itertools import combinations

from lamplight.boxes import is_possible
from lamplight.errors import BadBox, BadLots, BadSums, NotPossible
from lamplight.houses import House
from lamplight.lots import ledger_with, lots_fault
from tests.brute import (EXAMPLE, ONE_ROOM, TWO_ROOMS, any_objects, as_ledger, lie_on_one_way, random_house, row_house,
                         rows, walk_between)
from tests.checks import Checks, no_numbers
from tests.test_boxes import random_boxes, wrong_boxes

WIDE = {**{room: (1, 1) for room in "acd"}, "b": (1, 4)}


def random_lots(dice, house):
    names = house.rooms()
    dice.shuffle(names)
    told = [[] for _ in range(dice.randint(0, 3))]
    for room in names:
        if told and dice.random() < 0.7:
            dice.choice(told).append(room)
    return told


def has_sums(row, lots, sums):
    return all(sum(row[room] for room in lot) == whole for lot, whole in zip(lots, sums))


def fault_by_words(house, box, lots, sums):
    for index, lot in enumerate(lots):
        if sums[index] > sum(box[room][1] for room in lot):
            return ("much", index)
    near = rows(house)
    doors = {room: len(near[room]) for room in near}
    base = {room: max(box[room][0], doors[room], 1) for room in near}
    gain = [room for room in near if doors[room] > 1 and box[room][0] <= doors[room] - 1 <= box[room][1]]
    tight = [room for room in near if len(near) > 1 and box[room][1] == doors[room] - 1]
    leaves = [room for room in near if doors[room] < 2]
    told = []
    for one, other in sorted(combinations(leaves, 2)) if len(near) > 1 else [("a", "a")]:
        through = walk_between(house, one, other)
        if set(tight) <= set(through):
            less = [index for index, lot in enumerate(lots)
                    if sums[index] < sum(base[room] - (room in gain and room in through) for room in lot)]
            if not less:
                return None
            told.append((one, other, less[0]))
    return ("lack", told)


class LotsTest(Checks):
    def check(self, house, box, possible, lots, sums):
        some = any(has_sums(as_ledger(house, row), lots, sums) for row in possible)
        told = ledger_with(house, box, lots, sums)
        fault = lots_fault(house, box, lots, sums)
        self.assertEqual(fault, fault_by_words(house, box, lots, sums))
        self.assertEqual((told is None, fault is None), (not some, some), (house.doors(), box, lots, sums))
        if some:
            self.assertEqual(list(told), house.rooms())
            self.assertIn(tuple(told.values()), possible)
            self.assertTrue(has_sums(told, lots, sums))
        return fault

    def test_all_ledgers_of_boxes(self):
        dice = random.Random(48)
        words = {"much": 0, "lack": 0, None: 0}
        for seed, most in ((31, 3), (32, 4)):
            for house, box, possible in random_boxes(seed, 400, 0, most):
                lots = random_lots(dice, house)
                if not possible:
                    self.check_refused(NotPossible, {}, house, box, lots, [0 for _ in lots])
                    continue
                for _ in range(4):
                    likely = as_ledger(house, dice.choice(possible))
                    sums = [max(0, sum(likely[room] for room in lot) + dice.choice([0, 0, 0, -1, 1])) for lot in lots]
                    fault = self.check(house, box, possible, lots, sums)
                    words[fault if fault is None else fault[0]] += 1
        self.assertGreater(min(words.values()), 100)

    def check_refused(self, error, kept, house, box, lots, sums):
        self.check_error(error, kept, ledger_with, house, box, lots, sums)
        self.check_error(error, kept, lots_fault, house, box, lots, sums)

    def test_known(self):
        self.assertEqual(ledger_with(EXAMPLE, WIDE, [["b"]], [3]), {"a": 1, "b": 3, "c": 1, "d": 1})
        self.assertEqual(lots_fault(EXAMPLE, WIDE, [["a"], ["b"]], [1, 5]), ("much", 1))
        self.assertEqual(lots_fault(EXAMPLE, WIDE, [["a"], ["c", "b"]], [1, 2]),
                         ("lack", [("a", "c", 1), ("a", "d", 1), ("c", "d", 1)]))
        self.assertEqual(lots_fault(EXAMPLE, WIDE, [["a"], ["b"]], [0, 5]), ("much", 1), "too much comes first")
        self.assertEqual(lots_fault(EXAMPLE, {**WIDE, "a": (1, 9)}, [["a"], ["b"]], [0, 1])[1][0], ("a", "c", 0))
        self.assertIsNone(lots_fault(EXAMPLE, WIDE, [[], ["b", "a"]], [0, 3]))
        self.assertEqual(lots_fault(EXAMPLE, WIDE, [[], ["b", "a"]], [1, 3]), ("much", 0))
        self.assertEqual(ledger_with(EXAMPLE, WIDE, [], []), {"a": 1, "b": 2, "c": 1, "d": 1})
        self.assertIsNone(lots_fault(EXAMPLE, WIDE, (), ()))

    def test_few_rooms(self):
        for least, most in ((1, 1), (2, 5)):
            for whole in range(7):
                some = least <= whole <= most
                box = {"a": (least, most)}
                self.assertEqual(ledger_with(ONE_ROOM, box, [["a"]], [whole]), {"a": whole} if some else None)
                fault = ("much", 0) if whole > most else ("lack", [("a", "a", 0)])
                self.assertEqual(lots_fault(ONE_ROOM, box, [["a"]], [whole]), None if some else fault)
        box = {"a": (1, 2), "b": (2, 3)}
        self.assertEqual(lots_fault(TWO_ROOMS, box, [["a", "b"]], [2]), ("lack", [("a", "b", 0)]))
        self.assertEqual(sum(ledger_with(TWO_ROOMS, box, [["b", "a"]], [4]).values()), 4)

    def test_errors_of_boxes(self):
        for thing in wrong_boxes(WIDE) + [{**WIDE, room: (0, 5)} for room in WIDE]:
            self.check_refused(BadBox, {"thing": thing}, EXAMPLE, thing, None, None)
        self.check_refused(NotPossible, {}, EXAMPLE, {**WIDE, "b": (1, 1)}, None, None)

    def test_errors_of_lots(self):
        for thing in any_objects():
            if not isinstance(thing, (list, tuple)):
                self.check_refused(BadLots, {"index": 0}, EXAMPLE, WIDE, thing, None)
                self.check_refused(BadLots, {"index": 1}, EXAMPLE, WIDE, [["a"], thing, None], None)
                self.check_refused(BadSums, {"index": 0}, EXAMPLE, WIDE, [["a"]], thing)
            if not isinstance(thing, str) or thing not in "abcd" or thing == "":
                self.check_refused(BadLots, {"index": 2}, EXAMPLE, WIDE, [["a"], [], ["b", thing]], None)
        for lots, index in (([["a"], ["a"]], 1), ([["a", "b", "a"]], 0), ([[], ["c"], ["d"], ["b", "c"]], 3),
                            ([["zz"], None], 0), ("ab", 0), ([["a"], "b"], 1), ([["a"], {"b": 1}], 1)):
            self.check_refused(BadLots, {"index": index}, EXAMPLE, WIDE, lots, [-1])

    def test_errors_of_sums(self):
        lots = [["a"], ["b", "c"]]
        for thing in no_numbers(0):
            self.check_refused(BadSums, {"index": 1}, EXAMPLE, WIDE, lots, [1, thing])
            self.check_refused(BadSums, {"index": 0}, EXAMPLE, WIDE, lots, [thing])
        for sums, index in (([1, 1, 1], 2), ([1, 1, None, 0], 2), ([1], 1), ([], 0), ([1, -1, 3], 1), ((1, 1, 1), 2)):
            self.check_refused(BadSums, {"index": index}, EXAMPLE, WIDE, lots, sums)
        self.check_refused(BadSums, {"index": 0}, EXAMPLE, WIDE, [], [1])

    def test_kept(self):
        box = {"d": (1, 2), "b": (1, 3), "a": (1, 2), "c": (1, 1)}
        for sums in ([3, 1], [9, 1], [1, 0], [4, 2]):
            self.check_kept(ledger_with, EXAMPLE, box, [["d", "b"], ["a"]], sums)
            self.check_kept(lots_fault, EXAMPLE, box, [["d", "b"], ["a"]], sums)

    def test_great_ones(self):
        dice = random.Random(8)
        middle = row_house([f"m{k:02}" for k in range(22)])
        near_ends = [f"m{k:02}" for k in (1, 5, 5, 9, 12, 20)]
        eight = House(middle.rooms() + [f"n{k}" for k in range(6)],
                      middle.doors() + [(far, f"n{k}") for k, far in enumerate(near_ends)])
        for house in (row_house([f"r{k}" for k in range(30)]), eight, random_house([f"r{k}" for k in range(9)], 5)):
            near = rows(house)
            self.assertLessEqual(sum(len(near[room]) < 2 for room in near), 8)
            box = {room: (1, 100) for room in near}
            names = house.rooms()
            dice.shuffle(names)
            lots = [names[:10], names[10:11], names[11:]]
            for more in (0, 1, 50):
                sums = [sum(len(near[room]) for room in lot) + more * bool(lot) for lot in lots]
                told = ledger_with(house, box, lots, sums)
                self.assertIs(is_possible(house, box, told), True)
                self.assertTrue(has_sums(told, lots, sums))
            sums = [sum(max(1, len(near[room]) - 1) for room in lot) for lot in lots]
            inner = [room for room in near if len(near[room]) > 1]
            on_one_way = lie_on_one_way(house, inner)
            self.assertEqual(lots_fault(house, box, lots, sums) is None, on_one_way)
            self.assertEqual(ledger_with(house, box, lots, sums) is None, not on_one_way)


if __name__ == "__main__":
    unittest.main()
