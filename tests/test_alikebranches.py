"""[87], [88], and [94] on them: branches that ask the same, and least ones."""

import random
import unittest
from itertools import product

from lamplight.alikebranches import is_surrounding, least_branch, surrounding
from lamplight.branches import Branch, asks, goes, hung, word_of
from lamplight.errors import BadBranch, BadNumber
from lamplight.houses import House
from lamplight.onelaw import holds
from tests.brute import TWO_ROOMS, all_houses, any_objects, great_houses, random_house, rows, star_house
from tests.checks import Checks, no_numbers
from tests.test_branches import ALONE, ENDED, random_branch, small_branches, spider_branch

LEAF = Branch(TWO_ROOMS, "a", {"b": 1})


def branches_of_all_kinds():
    told = small_branches(2) + [ALONE, LEAF, ENDED, spider_branch()]
    told += [random_branch(seed, list("gfedcba")) for seed in range(60)]
    return told + [least_branch(ends, more) for ends in (0, 1, 2) for more in range(4) if (ends, more) != (2, 0)]


def one_of_each_ask():
    """A branch for each answer of asks that some branches have."""
    told = {}
    for branch in branches_of_all_kinds():
        told.setdefault(asks(branch), branch)
    return told


class AlikeBranchesTest(Checks):
    def test_example(self):
        self.assertIs(is_surrounding(ENDED, LEAF, ([ENDED, ENDED], 9)), True)
        self.assertIs(is_surrounding(ENDED, LEAF, ([ENDED], 9)), False)
        branches, hours = surrounding(ENDED, LEAF)
        self.assertEqual(goes([LEAF] + branches, hours), True)
        self.assertEqual(goes([ENDED] + branches, hours), False)

    def test_through_with_a_door_more_is_inside(self):
        through = least_branch(2, 1)
        inside = [branch for branch in branches_of_all_kinds() if asks(branch) == (2, 1) and word_of(branch) == "inside"]
        self.assertTrue(inside)
        self.assertEqual(word_of(through), "through")
        for branch in inside:
            self.assertIsNone(surrounding(through, branch))

    def test_just_one(self):
        """A surrounding that carryings tell apart, or both ask the same and all small ones let both or neither."""
        branches = list(one_of_each_ask().values())
        self.assertGreater(len(branches), 14)
        others = [branches[at] for at in range(0, len(branches), 2)]
        for one, other in product(branches, repeat=2):
            told = surrounding(one, other)
            if asks(one) == asks(other):
                self.assertIsNone(told)
                continue
            self.assertEqual((type(told), type(told[0])), (tuple, list))
            some, hours = told
            self.assertNotEqual(holds(*hung([one] + some, hours)), holds(*hung([other] + some, hours)))
            self.assertIs(is_surrounding(one, other, told), True)
            self.assertIs(is_surrounding(other, one, [tuple(some), hours]), True)
        for one in others[:8]:
            for some in list(product(others[:5], repeat=2)) + [()] + [(each,) for each in others]:
                for hours in (1, 2, 4):
                    for other in (branches[0], branches[-1], one):
                        expected = goes([one, *some], hours) != goes([other, *some], hours)
                        self.assertIs(is_surrounding(one, other, (list(some), hours)), expected)

    def test_alike_ones_are_alike_everywhere(self):
        dice = random.Random(87)
        known = one_of_each_ask()
        others = list(known.values())
        for branch in branches_of_all_kinds():
            alike = known[asks(branch)]
            self.assertIsNone(surrounding(branch, alike))
            for _ in range(6):
                some = [dice.choice(others) for _ in range(dice.choice((0, 1, 2)))]
                hours = dice.randrange(1, 7)
                self.assertEqual(holds(*hung([branch] + some, hours)), holds(*hung([alike] + some, hours)))

    def test_least_branches(self):
        """Against all branches of at most four rooms but the rim: fewest rooms, an hour each."""
        fewest = {}
        for many in range(1, 6):
            for house in all_houses(list("abcde")[:many]):
                for row in product((1, 2), repeat=many - 1):
                    asked = asks(Branch(house, "a", dict(zip("bcde", row))))
                    fewest.setdefault(asked, (many - 1, sum(row)))
                    fewest[asked] = min(fewest[asked], (many - 1, sum(row)))
        for ends in (0, 1, 2):
            for more in range(5):
                branch = least_branch(ends, more)
                if (ends, more) == (2, 0):
                    self.assertIsNone(branch)
                    self.assertNotIn((2, 0), fewest)
                    continue
                self.assertEqual(asks(branch), (ends, more))
                hours = branch.parts()[2]
                self.assertEqual((len(hours), sum(hours.values())), (ends + more + 1, ends + more + 1))
                if ends + more + 1 <= 4:
                    self.assertEqual(fewest[(ends, more)], (len(hours), sum(hours.values())))
                else:
                    self.assertNotIn((ends, more), fewest)

    def test_any_objects(self):
        for thing in any_objects() + [ENDED, [ENDED], ([ENDED, None], 1), ([ENDED], 0), ([ENDED], True), (ENDED, 1)]:
            self.assertIs(is_surrounding(ENDED, LEAF, thing), False)
            self.assertIs(is_surrounding(ENDED, LEAF, ([ENDED, thing], 9)), thing == ENDED)
            self.assertIs(is_surrounding(ENDED, LEAF, ([ENDED, ENDED], 9, thing)), False)
            expected = isinstance(thing, int) and not isinstance(thing, bool) and thing > 1
            self.assertIs(is_surrounding(ENDED, LEAF, ([ENDED, ENDED], thing)), expected)
        self.assertIs(is_surrounding(spider_branch(), LEAF, ([], 1)), True)
        self.assertIs(is_surrounding(spider_branch(), LEAF, ((), 1)), True)

    def test_errors(self):
        for thing in any_objects() + [ENDED.parts(), [ENDED]]:
            for call, more in ((surrounding, []), (is_surrounding, [None])):
                self.check_error(BadBranch, {"thing": thing}, call, thing, 5, *more)
                self.check_error(BadBranch, {"thing": thing}, call, ENDED, thing, *more)
        self.check_things(BadNumber, [3, 4] + no_numbers(0), least_branch, None, -1)
        self.check_things(BadNumber, no_numbers(0), least_branch, 2, None)

    def test_kept(self):
        first = surrounding(ENDED, LEAF)
        again = surrounding(ENDED, LEAF)
        self.assertEqual(first, again)
        first[0].clear()
        self.assertEqual(surrounding(ENDED, LEAF), again)
        self.assertEqual(least_branch(2, 3), least_branch(2, 3))

    def test_great_ones(self):
        names = [f"r{k}" for k in range(20)]
        great = [least_branch(ends, 18 - ends) for ends in (0, 1, 2)] + [spider_branch(), ALONE, LEAF]
        for house in great_houses(20) + [star_house(names), random_house(names, 5)]:
            near = rows(house)
            for more in (1, 0):
                for rim in house.rooms()[::9] + ["r0" if "r0" in near else "m"]:
                    hours = {room: max(1, len(near[room]) - 1 + more) for room in near if room != rim}
                    great.append(Branch(house, rim, hours))
        for one, other in product(great, repeat=2):
            told = surrounding(one, other)
            self.assertEqual(told is None, asks(one) == asks(other))
            if told is not None:
                some, hours = told
                self.assertNotEqual(goes([one] + some, hours), goes([other] + some, hours))
                self.assertLessEqual(max(len(hung([each] + some, hours)[0]) for each in (one, other)), 40)
                self.assertLessEqual(hours, 30)
        self.assertEqual(asks(least_branch(1, 500)), (1, 500))


if __name__ == "__main__":
    unittest.main()
