"""[84] to [86], and [94] on them: branches with a bare rim."""

import random
import unittest
from itertools import combinations, product

from lamplight.branches import Branch, added_word, asks, cut_off, goes, hung, word_of
from lamplight.errors import BadBranch, BadBranches, BadHours, BadLedger, BadNumber, BadRim, BadWords, NoDoor, NoRoom
from lamplight.houses import House
from lamplight.onelaw import holds
from tests.brute import (EXAMPLE, ONE_ROOM, SPIDER, TWO_ROOMS, all_ways, any_objects, great_houses, random_house,
                         reached_rows, row_house, rows, star_house, walk_between)
from tests.checks import Checks, dark_ledgers, no_numbers, no_rooms, wrong_ledgers

FORK = House(list("rxyz"), [("r", "x"), ("x", "y"), ("x", "z")])
ENDED = Branch(FORK, "r", {"x": 2, "y": 1, "z": 1})
ALONE = Branch(House(["r"], []), "r", {})
WORDS = ("never", "free", "end", "through", "inside")


def word_by_ways(house, rim, hours):
    """The word of a branch, all ways being tried."""
    near = rows(house)
    short = {room for room in hours if hours[room] == len(near[room]) - 1}
    on = [way for way in all_ways(house) if short <= set(way)]
    if any(hours[room] < len(near[room]) - 1 for room in hours) or not on:
        return "never"
    if not short:
        return "free"
    if any(way[0] == rim for way in on):
        return "end"
    return "through" if any(rim in way for way in on) else "inside"


def small_branches(most):
    """Branches of at most four rooms of some shapes, with one hour to so many in each room."""
    told = []
    houses = [row_house(list("abc")), row_house(list("bac")), row_house(list("abcd"))]
    for house in houses + [ONE_ROOM, TWO_ROOMS, EXAMPLE]:
        for rim in house.rooms():
            others = [room for room in house.rooms() if room != rim]
            lots = product(range(1, most + 1), repeat=len(others))
            told += [Branch(house, rim, dict(zip(others, row))) for row in lots]
    return told


def random_branch(seed, names):
    dice = random.Random(seed)
    house = random_house(names, seed)
    near = rows(house)
    rim = dice.choice(names)
    return Branch(house, rim, {room: max(1, len(near[room]) - 1 + dice.choice((0, 0, 1, 1, 1)))
                               for room in names if room != rim})


def spider_branch():
    """The middle of three arms as its rim, its short rooms on no way through it."""
    return Branch(SPIDER, "b1", {room: 1 if room != "c" else 2 for room in SPIDER.rooms() if room != "b1"})


class BranchesTest(Checks):
    def test_example(self):
        self.assertEqual((word_of(ENDED), asks(ENDED)), ("end", (1, 0)))
        self.assertEqual([goes([ENDED, ENDED], 1), goes([ENDED] * 3, 9)], [True, False])
        rim = Branch(House(["r", "y"], [("r", "y")]), "r", {"y": 1})
        self.assertEqual([goes([ENDED, ENDED, ENDED], 9), goes([rim, ENDED, ENDED], 9)], [False, True])
        self.assertEqual([word_of(Branch(FORK, "r", {"x": x, "y": 1, "z": 1})) for x in (1, 2, 3)],
                         ["never", "end", "free"])

    def test_parts(self):
        hours = {"z": 1, "x": 2, "y": 3}
        branch = Branch(FORK, "r", hours)
        house, rim, told = branch.parts()
        self.assertEqual((type(branch.parts()), rim, told, list(told)), (tuple, "r", hours, ["x", "y", "z"]))
        self.assertEqual(house, FORK)
        hours["x"] = 7
        told["y"] = 8
        self.assertEqual(branch.parts()[2], {"x": 2, "y": 3, "z": 1})
        self.assertEqual(ALONE.parts()[1:], ("r", {}))

    def test_equal(self):
        self.assertEqual(ENDED, Branch(House(list("zyxr"), [("z", "x"), ["x", "r"], ("y", "x")]), "r",
                                       {"z": 1, "y": 1, "x": 2}))
        unlike = [Branch(FORK, "r", {"x": 2, "y": 1, "z": 2}), Branch(FORK, "y", {"x": 2, "r": 1, "z": 1}),
                  Branch(House(list("rxyz"), [("r", "x"), ("x", "y"), ("y", "z")]), "r", {"x": 2, "y": 1, "z": 1})]
        for other in unlike + any_objects() + [ENDED.parts(), list(ENDED.parts())]:
            self.assertNotEqual(ENDED, other)
            self.assertFalse(other == ENDED)

    def test_hung(self):
        house, ledger = hung([ENDED, ALONE, Branch(TWO_ROOMS, "b", {"a": 5})], 4)
        expected = {"b0r0": 2, "b0r1": 1, "b0r2": 1, "b2r0": 5, "rim": 4}
        self.assertEqual((ledger, list(ledger)), (expected, list(expected)))
        self.assertEqual(house.doors(), [("b0r0", "b0r1"), ("b0r0", "b0r2"), ("b0r0", "rim"), ("b2r0", "rim")])
        house, ledger = hung((ALONE,), 1)
        self.assertEqual((house.rooms(), ledger), (["rim"], {"rim": 1}))
        # Ascending by their names, not by their places.
        row = row_house([f"a{k}" for k in range(13)])
        house, ledger = hung([Branch(row, "a0", {f"a{k}": k for k in range(1, 13)})], 20)
        self.assertEqual([ledger[f"b0r{at}"] for at in range(12)], [1, 10, 11, 12, 2, 3, 4, 5, 6, 7, 8, 9])
        self.assertEqual(list(ledger), house.rooms())

    def test_cut_off(self):
        ledger = {"a": 1, "b": 5, "c": 2, "d": 3}
        self.assertEqual(cut_off(EXAMPLE, ledger, "b", "c"), Branch(House(["b", "c"], [("b", "c")]), "b", {"c": 2}))
        self.assertEqual(cut_off(EXAMPLE, ledger, "a", "b"), Branch(EXAMPLE, "a", {"b": 5, "c": 2, "d": 3}))

    def test_cut_off_and_hung_together(self):
        for seed in range(60):
            house = random_house(list("gfedcba"), seed)
            ledger = {room: 1 + (len(room) + at * seed) % 3 for at, room in enumerate(house.rooms())}
            for room, near in rows(house).items():
                branches = [cut_off(house, ledger, room, far) for far in near]
                told, hours = hung(branches, ledger[room])
                self.assertEqual(sorted(hours.values()), sorted(ledger.values()))
                self.assertEqual(holds(told, hours), holds(house, ledger))
                self.assertEqual(goes(branches, ledger[room]), holds(house, ledger))

    def test_words(self):
        for branch in small_branches(3) + [random_branch(seed, list("gfedcba")) for seed in range(400)]:
            house, rim, hours = branch.parts()
            word = word_by_ways(house, rim, hours)
            self.assertEqual(word_of(branch), word, (house.doors(), rim, hours))
            doors = len(rows(house)[rim])
            asked = {"never": None, "free": (0, doors - 1), "end": (1, doors - 1), "through": (2, doors - 1),
                     "inside": (2, doors)}
            self.assertEqual(asks(branch), asked[word])
        self.assertEqual((word_of(ALONE), asks(ALONE)), ("free", (0, -1)))
        self.assertEqual((word_of(spider_branch()), asks(spider_branch())), ("never", None))
        fork = House(list("rcabde"), [("r", "c"), ("c", "a"), ("c", "b"), ("a", "d"), ("b", "e")])
        ones = {"a": 1, "b": 1, "c": 3, "d": 1, "e": 1, "r": 1}
        for rim, expected in (("r", ("inside", (2, 1))), ("c", ("through", (2, 2))), ("d", ("end", (1, 0)))):
            branch = Branch(fork, rim, {room: ones[room] for room in ones if room != rim})
            self.assertEqual((word_of(branch), asks(branch)), expected)

    def test_all_carryings(self):
        """That branches hung together go just if some carrying has their ledger, all carryings being gone through."""
        branches = small_branches(2)
        dice = random.Random(86)
        there = {}
        for _ in range(500):
            some = dice.sample(branches, dice.choice((1, 2, 2, 3)))
            house, ledger = hung(some, 1)
            if len(house) > 5:
                continue
            for hours in range(1, 9 - sum(ledger.values())):
                key = tuple(house.doors())
                if key not in there:
                    there[key] = reached_rows(house, 8)
                row = tuple({**ledger, "rim": hours}.values())
                told = goes(some, hours)
                self.assertIs(told, row in there[key], (house.doors(), ledger, hours))

    def test_going_is_holding(self):
        dice = random.Random(860)
        branches = [random_branch(seed, list("gfedcba"[:dice.choice((3, 5, 6, 7))])) for seed in range(200)]
        branches += small_branches(3) + [spider_branch()]
        found = {}
        for _ in range(1500):
            some = [dice.choice(branches) for _ in range(dice.choice((1, 2, 3, 4)))]
            for hours in (1, 2, 3, 5, 9):
                told = goes(some, hours)
                self.assertIs(told, holds(*hung(some, hours)), ([each.parts() for each in some], hours))
                found[told] = found.get(told, 0) + 1
        self.assertGreater(min(found.values()), 500)

    def test_added_word(self):
        self.assertEqual(added_word([]), "free")
        for many in range(1, 5):
            for words in product(WORDS, repeat=many):
                others = sorted(word for word in words if word != "free")
                expected = {"": "free", "end": "end", "end end": "through", "through": "through", "inside": "inside"}
                self.assertEqual(added_word(list(words)), expected.get(" ".join(others), "never"), words)

    def test_added_words_of_hung_branches(self):
        dice = random.Random(85)
        branches = small_branches(2) + [random_branch(seed, list("fedcba")) for seed in range(60)]
        for _ in range(600):
            some = [dice.choice(branches) for _ in range(dice.choice((1, 2, 3)))]
            house, ledger = hung(some, 1)
            whole = Branch(house, "rim", {room: ledger[room] for room in ledger if room != "rim"})
            self.assertEqual(word_of(whole), added_word([word_of(each) for each in some]))

    def test_errors_of_branches(self):
        right = {"x": 2, "y": 1, "z": 1}
        self.check_things(BadRim, no_rooms() + ["a"], Branch, FORK, None, 5)
        wrong = wrong_ledgers(right) + dark_ledgers(right) + [{**right, "r": 1}]
        self.check_things(BadHours, wrong, Branch, FORK, "r", None)
        self.check_things(BadHours, any_objects()[:10] + [{"a": 1}], Branch, ONE_ROOM, "a", None)
        things = any_objects() + [ENDED.parts(), [ENDED], FORK]
        for call in (word_of, asks):
            self.check_things(BadBranch, things, call, None)

    def test_errors_of_lists(self):
        for call in (hung, goes):
            for thing in any_objects() + [ENDED]:
                if not isinstance(thing, (list, tuple)) or not thing:
                    self.check_error(BadBranches, {"index": 0}, call, thing, 0)
                if thing != ENDED:
                    self.check_error(BadBranches, {"index": 0}, call, [thing, ENDED], 0)
                    self.check_error(BadBranches, {"index": 2}, call, (ENDED, ALONE, thing, None), 0)
            self.check_things(BadNumber, no_numbers(1), call, [ENDED], None)
            self.check_things(BadNumber, no_numbers(1), call, [spider_branch()], None)
        for thing in any_objects() + ["end"]:
            if not isinstance(thing, (list, tuple)):
                self.check_error(BadWords, {"index": 0}, added_word, thing)
            if thing != "end":
                self.check_error(BadWords, {"index": 0}, added_word, [thing, "never"])
                self.check_error(BadWords, {"index": 2}, added_word, ("never", "through", thing, None))
        self.assertEqual(added_word(()), "free")

    def test_errors_of_cut_off(self):
        ledger = {"a": 1, "b": 5, "c": 2, "d": 3}
        self.check_things(BadLedger, wrong_ledgers(ledger) + dark_ledgers(ledger), cut_off, EXAMPLE, None, 5, 5)
        for thing in no_rooms():
            self.check_error(NoRoom, {"thing": thing}, cut_off, EXAMPLE, ledger, thing, 5)
            self.check_error(NoRoom, {"thing": thing}, cut_off, EXAMPLE, ledger, "a", thing)
        for one, other in list(combinations("acd", 2)) + [("b", "b")]:
            self.check_error(NoDoor, {"one": one, "other": other}, cut_off, EXAMPLE, ledger, one, other)

    def test_kept(self):
        house, ledger = EXAMPLE, {"d": 1, "b": 3, "a": 1, "c": 2}
        self.check_kept(added_word, ["end", "free", "end"])
        told = [cut_off(house, hours, "b", "c") for hours in (ledger, dict(sorted(ledger.items())))]
        self.assertEqual(told[0], told[1])
        branches = [ENDED, ALONE, ENDED]
        _, first = hung(branches, 2)
        first.clear()
        branches.append(ENDED)
        _, again = hung(tuple(branches[:3]), 2)
        self.assertEqual((len(again), again["rim"], branches), (7, 2, [ENDED, ALONE, ENDED, ENDED]))
        self.assertEqual(hung(branches, 2)[0], hung(tuple(branches), 2)[0])

    def test_great_ones(self):
        for house in great_houses(20) + [star_house([f"r{k}" for k in range(20)])]:
            for rim in house.rooms()[::6]:
                near = rows(house)
                free = Branch(house, rim, {room: len(near[room]) for room in near if room != rim})
                self.assertEqual((word_of(free), asks(free)), ("free", (0, len(near[rim]) - 1)))
                short = Branch(house, rim, {room: max(1, len(near[room]) - 1) for room in near if room != rim})
                self.assertEqual(word_of(short), word_by_ways(*short.parts()))
        some = [random_branch(seed, [f"r{k}" for k in range(20)]) for seed in (1, 2)]
        house, ledger = hung(some, 30)
        self.assertEqual((len(house), goes(some, 30)), (39, holds(house, ledger)))
        leaf = Branch(TWO_ROOMS, "a", {"b": 1})
        many = [leaf] * 39
        house, ledger = hung(many, 38)
        self.assertEqual((len(house), holds(house, ledger), goes(many, 38), goes(many, 37)), (40, True, True, False))
        for house in great_houses(20):
            one, other = house.doors()[0]
            branch = cut_off(house, {room: 3 for room in house.rooms()}, one, other)
            rooms = [room for room in house.rooms() if other in walk_between(house, one, room)]
            self.assertEqual(branch.parts()[1:], (one, {room: 3 for room in rooms}))


if __name__ == "__main__":
    unittest.main()
