"""[90], [92], and [94] on them: boxed branches, how many in them have which word, and which of them are apart."""

import random
import unittest
from itertools import product

from lamplight.boxed import Boxed, box_apart, going_count, is_box_apart, least_hours, word_counts
from lamplight.branches import Branch, goes, hung, word_of
from lamplight.errors import BadBox, BadBoxed, BadBranches, BadNumber, BadRim, UnlikeDoors
from lamplight.houses import House
from tests.brute import (EXAMPLE, ONE_ROOM, SPIDER, TWO_ROOMS, any_objects, great_houses, random_house, row_house, rows,
                         star_house)
from tests.checks import Checks, no_numbers, no_rooms
from tests.test_branches import ALONE, ENDED, FORK, small_branches, spider_branch
from tests.test_boxes import wrong_boxes

WORDS = ("free", "end", "through", "inside")
BOX = {"x": (1, 3), "y": (1, 1), "z": (1, 1)}
WIDE = Boxed(FORK, "r", BOX)
BARE = Boxed(ONE_ROOM, "a", {})


def branches_in(boxed):
    """All branches in a boxed one."""
    house, rim, box = boxed.parts()
    lots = product(*[range(least, most + 1) for least, most in box.values()])
    return [Branch(house, rim, dict(zip(box, row))) for row in lots]


def random_boxed(seed, names, most):
    """A boxed branch whose hours are near to what doors ask for, of at most so many branches."""
    dice = random.Random(seed)
    while True:
        house = random_house(names, dice.randrange(10 ** 6))
        rim = dice.choice(names)
        box = {}
        many = 1
        for room, near in rows(house).items():
            if room != rim:
                least = max(1, len(near) - dice.choice((0, 1, 1, 2)))
                box[room] = (least, least + dice.choice((0, 0, 1, 1, 2)))
                many *= 1 + box[room][1] - least
        if many <= most:
            return Boxed(house, rim, box)


def small_boxed():
    told = [WIDE, BARE, Boxed(TWO_ROOMS, "a", {"b": (2, 4)})]
    for house in [row_house(list("abc")), row_house(list("bac")), EXAMPLE, FORK]:
        for rim in house.rooms():
            for span in ((1, 1), (1, 2), (2, 3)):
                told.append(Boxed(house, rim, {room: span for room in house.rooms() if room != rim}))
    return told + [random_boxed(seed, list("fedcba")[:4 + seed % 3], 60) for seed in range(80)]


class BoxedTest(Checks):
    def test_example(self):
        self.assertEqual(word_counts(WIDE), (1, 1, 0, 0))
        self.assertEqual(least_hours(WIDE), (5, 4, None, None))
        self.assertEqual([word_of(branch) for branch in branches_in(WIDE)], ["never", "end", "free"])

    def test_parts(self):
        box = {"z": [1, 1], "x": (1, 3), "y": (1, 1)}
        boxed = Boxed(FORK, "r", box)
        house, rim, told = boxed.parts()
        self.assertEqual((type(boxed.parts()), rim, told, list(told)), (tuple, "r", BOX, ["x", "y", "z"]))
        self.assertEqual([type(span) for span in told.values()], [tuple] * 3)
        self.assertEqual(house, FORK)
        box["z"].append(4)
        box["x"] = (7, 7)
        told.clear()
        self.assertEqual(boxed.parts()[2], BOX)
        self.assertEqual(BARE.parts(), (ONE_ROOM, "a", {}))

    def test_equal(self):
        self.assertEqual(WIDE, Boxed(House(list("zyxr"), [("z", "x"), ["x", "r"], ("y", "x")]), "r",
                                     {"z": (1, 1), "y": [1, 1], "x": (1, 3)}))
        unlike = [Boxed(FORK, "r", {**BOX, "y": (1, 2)}), Boxed(FORK, "y", {"x": (1, 3), "r": (1, 1), "z": (1, 1)}),
                  Boxed(House(list("rxyz"), [("r", "x"), ("x", "y"), ("y", "z")]), "r", BOX)]
        for other in unlike + any_objects() + [WIDE.parts(), ENDED]:
            self.assertNotEqual(WIDE, other)
            self.assertFalse(WIDE == other)

    def test_all_branches(self):
        found = dict.fromkeys(WORDS, 0)
        for boxed in small_boxed() + [random_boxed(seed, list("hgfedcba"), 300) for seed in range(40)]:
            words = [(word_of(branch), sum(branch.parts()[2].values())) for branch in branches_in(boxed)]
            counts = tuple(sum(each == word for each, _ in words) for word in WORDS)
            self.assertEqual(word_counts(boxed), counts, boxed.parts())
            least = tuple(min((many for each, many in words if each == word), default=None) for word in WORDS)
            self.assertEqual(least_hours(boxed), least, boxed.parts())
            for word, many in zip(WORDS, counts):
                found[word] += many > 1
        self.assertGreater(min(found.values()), 5)
        self.assertEqual((word_counts(BARE), least_hours(BARE)), ((1, 0, 0, 0), (0, None, None, None)))

    def test_going(self):
        dice = random.Random(92)
        some = small_branches(2) + [spider_branch(), ALONE]
        found = {}
        for boxed in small_boxed():
            there = branches_in(boxed)
            for many in (0, 0, 1, 1, 2, 3):
                branches = [dice.choice(some) for _ in range(many)]
                for hours in (1, 2, 3, 4, 7):
                    expected = sum(goes([branch] + branches, hours) for branch in there)
                    self.assertEqual(going_count(boxed, branches, hours), expected)
                    self.assertEqual(going_count(boxed, tuple(branches), hours), expected)
                    found[expected] = found.get(expected, 0) + 1
        self.assertGreater(len(found), 12)

    def test_just_one(self):
        """A pair with which they are unlike, every branch being tried; or equal vectors, and no small pair."""
        boxed = small_boxed() + [random_boxed(seed, list("edcba"), 30) for seed in range(200, 300)]
        boxed += [Boxed(TWO_ROOMS, "a", {"b": (2, 2)}), Boxed(row_house(list("abc")), "a", {"b": (1, 1), "c": (3, 3)})]
        some = [[], [ENDED], [ENDED, ENDED], [ALONE], [ENDED, Branch(TWO_ROOMS, "a", {"b": 1})], [spider_branch()]]
        kinds = {}
        vectors = [word_counts(each) for each in boxed]
        pairs = list(product(range(len(boxed)), repeat=2))
        # Pairs whose vectors begin alike are rare, so all of these are taken.
        pairs = [pair for at, pair in enumerate(pairs) if at % 29 == 0 or vectors[pair[0]][:2] == vectors[pair[1]][:2]]
        for one, other in [(boxed[at], boxed[to]) for at, to in pairs]:
            doors = [len(rows(each.parts()[0])[each.parts()[1]]) for each in (one, other)]
            if doors[0] != doors[1]:
                self.check_error(UnlikeDoors, {}, box_apart, one, other)
                self.check_error(UnlikeDoors, {}, is_box_apart, one, other, None)
                continue
            told = box_apart(one, other)
            if word_counts(one) == word_counts(other):
                self.assertIsNone(told)
                for branches, hours in product(some, (1, 2, 4)):
                    self.assertEqual(going_count(one, branches, hours), going_count(other, branches, hours))
                    self.assertIs(is_box_apart(one, other, (branches, hours)), False)
                continue
            self.assertEqual((type(told), type(told[0])), (tuple, list))
            branches, hours = told
            many = [sum(goes([branch] + branches, hours) for branch in branches_in(each)) for each in (one, other)]
            self.assertNotEqual(many[0], many[1])
            self.assertIs(is_box_apart(one, other, told), True)
            unlike = [a != b for a, b in zip(word_counts(one), word_counts(other))].index(True)
            kinds[unlike] = kinds.get(unlike, 0) + 1
            for branches, hours in product(some[:3], (1, 3)):
                many = [going_count(each, branches, hours) for each in (one, other)]
                self.assertIs(is_box_apart(one, other, [tuple(branches), hours]), many[0] != many[1])
        self.assertEqual(sorted(kinds), [0, 1, 2, 3])

    def test_through_in_the_place_of_inside(self):
        """As many in all, but one "through" for one "inside": a short rim alone tells."""
        fork = House(list("rcabde"), [("r", "c"), ("c", "a"), ("c", "b"), ("a", "d"), ("b", "e")])
        row = row_house(list("dcrabe"))
        double = House(list("rcabdef"), [("r", "c"), ("c", "a"), ("c", "b"), ("a", "d"), ("b", "e"), ("r", "f")])
        through = Boxed(row, "r", {room: (1, 1) if room in "ca" else (2, 2) for room in "dcabe"})
        inside = Boxed(double, "r", {**{room: (1, 1) for room in "abdef"}, "c": (3, 3)})
        self.assertEqual((word_counts(through), word_counts(inside)), ((0, 0, 1, 0), (0, 0, 0, 1)))
        branches, hours = box_apart(through, inside)
        self.assertNotEqual(going_count(through, branches, hours), going_count(inside, branches, hours))
        for each, word in ((through, "through"), (inside, "inside")):
            self.assertEqual([word_of(branch) for branch in branches_in(each)], [word])
        self.check_error(UnlikeDoors, {}, box_apart, Boxed(fork, "r", {room: (3, 3) for room in "cabde"}), inside)

    def test_any_objects(self):
        other = Boxed(FORK, "r", {**BOX, "x": (2, 3)})
        third = Boxed(FORK, "r", {**BOX, "x": (3, 3)})
        self.assertIs(is_box_apart(WIDE, third, ([], 1)), True)
        self.assertIsNone(box_apart(WIDE, other))
        for thing in any_objects() + [ENDED, [ENDED], ([None], 1), ([], 0), ([], True), ([WIDE], 1), WIDE]:
            self.assertIs(is_box_apart(WIDE, third, thing), False)
            self.assertIs(is_box_apart(WIDE, third, ([thing], 5)), thing == ENDED)
            self.assertIs(is_box_apart(WIDE, third, ([], 1, thing)), False)
            expected = isinstance(thing, int) and not isinstance(thing, bool) and thing > 0
            self.assertIs(is_box_apart(WIDE, third, ([], thing)), expected)

    def test_errors_of_boxed(self):
        self.check_things(BadRim, no_rooms() + ["a"], Boxed, FORK, None, 5)
        wrong = wrong_boxes(BOX) + [{**BOX, room: (0, 5)} for room in BOX] + [{**BOX, "r": (1, 1)}]
        wrong += [{**BOX, "y": span} for span in ((1, True), (1, "1"), (1, None), (True, 2), (2, 1), (1,), (1, 1, 1), 1)]
        self.check_things(BadBox, wrong, Boxed, FORK, "r", None)
        self.check_things(BadBox, [thing for thing in any_objects() if thing != {}], Boxed, ONE_ROOM, "a", None)

    def test_errors(self):
        things = any_objects() + [BOX, WIDE.parts(), [WIDE], ENDED]
        for call in (word_counts, least_hours):
            self.check_things(BadBoxed, things, call, None)
        self.check_things(BadBoxed, things, going_count, None, 5, 0)
        for thing in things:
            for call, more in ((box_apart, []), (is_box_apart, [None])):
                self.check_error(BadBoxed, {"thing": thing}, call, thing, 5, *more)
                self.check_error(BadBoxed, {"thing": thing}, call, BARE, thing, *more)
        for thing in any_objects() + [WIDE]:
            if not isinstance(thing, (list, tuple)):
                self.check_error(BadBranches, {"index": 0}, going_count, WIDE, thing, 0)
            self.check_error(BadBranches, {"index": 0}, going_count, WIDE, [thing], 0)
            self.check_error(BadBranches, {"index": 1}, going_count, WIDE, [ENDED, thing, None], 0)
        self.check_things(BadNumber, no_numbers(1), going_count, WIDE, [spider_branch()], None)
        self.check_things(BadNumber, no_numbers(1), going_count, WIDE, (), None)

    def test_kept(self):
        first = box_apart(WIDE, Boxed(FORK, "r", {**BOX, "x": (3, 3)}))
        again = box_apart(WIDE, Boxed(FORK, "r", {**BOX, "x": (3, 3)}))
        self.assertEqual(first, again)
        branches = [ENDED]
        self.assertEqual(going_count(WIDE, branches, 3), 2)
        self.assertEqual(branches, [ENDED])

    def test_great_ones(self):
        names = [f"r{k}" for k in range(20)]
        for house in great_houses(20) + [star_house(names), random_house(names, 9)]:
            near = rows(house)
            for rim in house.rooms()[::7]:
                boxed = Boxed(house, rim, {room: (1, 100) for room in near if room != rim})
                told = word_counts(boxed)
                free = 1
                for room in near:
                    free *= 101 - len(near[room]) if room != rim else 1
                self.assertEqual(told[0], free)
                self.assertEqual(least_hours(boxed)[0], sum(len(near[room]) for room in near if room != rim))
                self.assertEqual(going_count(boxed, [], 30), sum(told))
                tight = Boxed(house, rim, {room: (1, 99) for room in near if room != rim})
                branches, hours = box_apart(boxed, tight)
                self.assertNotEqual(going_count(boxed, branches, hours), going_count(tight, branches, hours))
                self.assertLessEqual(hours, 30)
                self.assertLessEqual(len(hung([boxed_first(boxed)] + branches, hours)[0]), 40)
        spider = Boxed(SPIDER, "b1", {room: (1, 4) for room in SPIDER.rooms() if room != "b1"})
        self.assertEqual(sum(word_counts(spider)), sum(word_of(each) != "never" for each in branches_in(spider)))


def boxed_first(boxed):
    house, rim, box = boxed.parts()
    return Branch(house, rim, {room: box[room][0] for room in box})


if __name__ == "__main__":
    unittest.main()
