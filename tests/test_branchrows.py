"""[89], and [94] on it: branches through one door, by how often the lamp comes and goes."""

import random
import unittest
from itertools import combinations, product
from math import comb

from lamplight.branches import Branch, hung
from lamplight.branchrows import count_apart, rows_of
from lamplight.counting import count_carryings
from lamplight.errors import BadBranch, NotOneDoor
from lamplight.houses import House
from tests.brute import SPIDER, TWO_ROOMS, any_objects, carryings_of, great_houses, random_house, row_house, rows
from tests.checks import Checks
from tests.test_branches import ALONE, ENDED, small_branches

LEAF = Branch(TWO_ROOMS, "a", {"b": 1})
MIDDLE = Branch(row_house(list("abc")), "b", {"a": 1, "c": 1})


def one_door(branch):
    house, rim, _ = branch.parts()
    return len(rows(house)[rim]) == 1


def small_ones(most):
    return [branch for branch in small_branches(most) if one_door(branch)]


def rows_by_walks(branch):
    """The three dicts of rows_of, all carryings being gone through that are an hour in the rim each time."""
    house, rim, hours = branch.parts()
    told = ({}, {}, {})
    for many in range(1, sum(hours.values()) + 2):
        for walk in carryings_of(house, {**hours, rim: many}):
            if any(one == other == rim for one, other in zip(walk, walk[1:])):
                continue
            if walk[0] == walk[-1] == rim:
                told[0][many - 1] = told[0].get(many - 1, 0) + 1
            elif walk[0] == rim:
                told[1][many] = told[1].get(many, 0) + 1
            elif walk[-1] != rim:
                told[2][many] = told[2].get(many, 0) + 1
    return told


class BranchRowsTest(Checks):
    def test_example(self):
        self.assertEqual(rows_of(ENDED), ({}, {1: 2}, {1: 2}))
        self.assertEqual(rows_of(LEAF), ({1: 1}, {1: 1}, {}))

    def test_all_carryings(self):
        for branch in small_ones(3) + [Branch(TWO_ROOMS, "b", {"a": 5})]:
            told = rows_of(branch)
            self.assertEqual(told, rows_by_walks(branch), branch.parts())
            self.assertEqual([list(part) for part in told], [sorted(part) for part in told])

    def test_all_carryings_of_more_rooms(self):
        dice = random.Random(89)
        found = 0
        for seed in range(60):
            house = random_house(list("rabcde"[:dice.choice((5, 6))]), seed)
            near = rows(house)
            for rim in [room for room in near if len(near[room]) == 1][:2]:
                hours = {room: max(1, len(near[room]) - dice.choice((0, 0, 1))) for room in near if room != rim}
                if sum(hours.values()) > 8:
                    continue
                branch = Branch(house, rim, hours)
                told = rows_of(branch)
                self.assertEqual(told, rows_by_walks(branch), branch.parts())
                found += all(told)
        self.assertGreater(found, 20)

    def test_just_one(self):
        """Numbers of carryings that differ, or equal rows: then they are the same with all small surroundings."""
        branches = small_ones(2)[::2] + [Branch(TWO_ROOMS, "a", {"b": 3})]
        others = branches[::2] + [MIDDLE]
        lots = [[]] + [[each] for each in others] + [list(pair) for pair in combinations(others[:6], 2)]
        apart = 0
        for one, other in product(branches, repeat=2):
            told = count_apart(one, other)
            if rows_of(one) == rows_of(other):
                self.assertIsNone(told)
                for some in lots[::5] if one != other else []:
                    for hours in (1, 2, 4):
                        many = [count_carryings(*hung([each] + some, hours)) for each in (one, other)]
                        self.assertEqual(many[0], many[1])
                continue
            self.assertEqual((type(told), type(told[0])), (tuple, list))
            some, hours = told
            many = [count_carryings(*hung([each] + some, hours)) for each in (one, other)]
            self.assertNotEqual(many[0], many[1], (one.parts(), other.parts(), hours))
            apart += 1
        self.assertGreater(apart, 300)

    def test_rows_that_differ_in_one_dict_alone(self):
        """Branches of all kinds of unlike rows are told apart, those too whose first rows are equal."""
        by_first = {}
        for branch in small_ones(3):
            first, second, third = rows_of(branch)
            by_first.setdefault(tuple(first.items()), []).append((second, third, branch))
        kinds = {}
        for lot in by_first.values():
            for one, other in list(combinations(lot, 2))[::3]:
                if one[:2] != other[:2]:
                    kind = "third" if one[0] == other[0] else "second"
                    some, hours = count_apart(one[2], other[2])
                    many = [count_carryings(*hung([each[2]] + some, hours)) for each in (one, other)]
                    self.assertNotEqual(many[0], many[1])
                    kinds[kind] = kinds.get(kind, 0) + 1
        self.assertIn("second", kinds)

    def test_numbers_by_rows(self):
        """That rows tell how many carryings there are with the rim alone, whatever its hours."""
        for branch in small_ones(2):
            whole, begun, both = rows_of(branch)
            for hours in range(1, 6):
                expected = sum(comb(hours - 1, many) * whole[many] for many in whole)
                expected += sum(2 * comb(hours - 1, many - 1) * begun[many] for many in begun)
                expected += sum(comb(hours - 1, many - 1) * both[many] for many in both)
                self.assertEqual(count_carryings(*hung([branch], hours)), expected)

    def test_errors(self):
        for thing in any_objects() + [ENDED.parts(), [ENDED]]:
            self.check_error(BadBranch, {"thing": thing}, rows_of, thing)
            self.check_error(BadBranch, {"thing": thing}, count_apart, thing, 5)
            self.check_error(BadBranch, {"thing": thing}, count_apart, ALONE, thing)
        for thing in (ALONE, MIDDLE, Branch(SPIDER, "c", {room: 1 for room in SPIDER.rooms() if room != "c"})):
            self.check_error(NotOneDoor, {"thing": thing}, rows_of, thing)
            self.check_error(NotOneDoor, {"thing": thing}, count_apart, thing, ALONE)
            self.check_error(NotOneDoor, {"thing": thing}, count_apart, ENDED, thing)

    def test_kept(self):
        told = rows_of(ENDED)
        for part in told:
            part.clear()
        self.assertEqual(rows_of(ENDED), ({}, {1: 2}, {1: 2}))
        first = count_apart(ENDED, LEAF)
        again = count_apart(ENDED, LEAF)
        self.assertEqual(first, again)
        first[0].clear()
        self.assertEqual(count_apart(ENDED, LEAF), again)

    def test_great_ones(self):
        great = []
        for house in great_houses(8) + [random_house([f"r{k}" for k in range(8)], seed) for seed in range(6)]:
            near = rows(house)
            for rim in [room for room in near if len(near[room]) == 1][:3]:
                hours = {room: max(1, len(near[room]) - 1) for room in near if room != rim}
                more = (16 - sum(hours.values())) // 2
                self.assertGreaterEqual(more, 0)
                for room in (list(hours)[0], near[rim][0]):
                    hours[room] += more
                great.append(Branch(house, rim, hours))
        for one, other in list(combinations(great, 2))[::2]:
            told = count_apart(one, other)
            self.assertEqual(told is None, rows_of(one) == rows_of(other))
            if told is not None:
                some, hours = told
                self.assertLessEqual(sum(len(each.parts()[2]) for each in some), 8)
                self.assertLessEqual(hours, 30)
                many = [count_carryings(*hung([each] + some, hours)) for each in (one, other)]
                self.assertNotEqual(many[0], many[1])


if __name__ == "__main__":
    unittest.main()
