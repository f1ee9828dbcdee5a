"""[91], and [94] on it: vectors of boxed branches put together."""

import random
import unittest

from lamplight.boxcounts import count_possible
from lamplight.boxed import Boxed, word_counts
from lamplight.boxes import wiped
from lamplight.branches import hung
from lamplight.errors import BadNumber, BadVector
from lamplight.houses import House
from lamplight.vectors import added_counts, raised_counts, whole_count
from tests.brute import ONE_ROOM, SPIDER, any_objects, great_houses, random_house, rows, small_houses
from tests.checks import Checks, no_numbers
from tests.test_boxed import boxed_first, branches_in, random_boxed, small_boxed
from tests.test_branches import goes

NO_VECTORS = [(1, 2, 3), (1, 2, 3, 4, 5), [1, 2, 3, -1], [1, 2, True, 4], (1, 2, 3, "4"), (None, 1, 1, 1), {0: 1}]


def hung_boxed(one, other):
    """Two boxed branches with their rims made one."""
    house, _ = hung([boxed_first(one), boxed_first(other)], 1)
    box = {}
    for index, boxed in enumerate((one, other)):
        for place, span in enumerate(boxed.parts()[2].values()):
            box[f"b{index}r{place}"] = span
    return Boxed(house, "rim", box)


def vector_seen(house, box, room, ahead):
    """The vector of all but a room and what is behind its door, put together room by room; ahead None for all."""
    told = (1, 0, 0, 0)
    near = [other for other in rows(house)[room] if other != ahead]
    for other in near:
        told = added_counts(told, vector_raised(house, box, other, room))
    return told


def vector_raised(house, box, room, ahead):
    return raised_counts(vector_seen(house, box, room, ahead), len(rows(house)[room]) - 1, *box[room])


class VectorsTest(Checks):
    def test_example(self):
        self.assertEqual(added_counts((1, 1, 0, 0), (1, 1, 0, 0)), (1, 2, 1, 0))
        self.assertEqual(whole_count((1, 2, 1, 0), 2, 1, 4), 16)

    def test_added(self):
        dice = random.Random(91)
        boxed = small_boxed()
        for _ in range(300):
            one, other = dice.choice(boxed), dice.choice(boxed)
            told = added_counts(word_counts(one), list(word_counts(other)))
            self.assertEqual(told, word_counts(hung_boxed(one, other)))
            self.assertEqual(type(told), tuple)
        self.assertEqual(added_counts((2, 3, 5, 7), (11, 13, 17, 19)),
                         (22, 2 * 13 + 3 * 11, 2 * 17 + 5 * 11 + 3 * 13, 2 * 19 + 7 * 11))

    def test_raised(self):
        for at, boxed in enumerate(small_boxed()):
            house, rim, box = boxed.parts()
            doors = len(rows(house)[rim])
            raised = House(house.rooms() + ["new"], house.doors() + [(rim, "new")])
            for least, most in ((1, 1), (1, 2), (1, 4), (2, 2), (3, 5), (doors + 1, doors + 1 + at % 3)):
                told = raised_counts(word_counts(boxed), doors, least, most)
                self.assertEqual(told, word_counts(Boxed(raised, "new", {**box, rim: (least, most)})))
                self.assertEqual(type(told), tuple)

    def test_whole(self):
        for boxed in small_boxed()[::2] + [random_boxed(seed, list("gfedcba"), 40) for seed in range(30)]:
            house, rim, box = boxed.parts()
            if not box:
                continue
            doors = len(rows(house)[rim])
            there = branches_in(boxed)
            for least, most in ((1, 1), (1, 3), (2, 2), (doors, doors + 2), (1, 9)):
                if least < 1:
                    continue
                expected = sum(goes([branch], hours) for branch in there for hours in range(least, most + 1))
                self.assertEqual(whole_count(word_counts(boxed), doors, least, most), expected)
                self.assertEqual(expected, count_possible(house, {**box, rim: (least, most)}))

    def test_numbers_as_they_are(self):
        """Numbers below 1 are none of the hours, and there may be none from least to most."""
        vector = [2, 3, 5, 7]
        self.assertEqual(raised_counts(vector, 2, 0, 4), raised_counts(vector, 2, 1, 4))
        self.assertEqual(raised_counts(vector, 2, 1, 4), (4, 2 * 3 + 5, 0, 2 * 12 + 5))
        self.assertEqual(raised_counts(vector, 0, 0, 0), (0, 0, 0, 0))
        self.assertEqual(raised_counts(vector, 0, 0, 3), (6, 9, 0, 36))
        self.assertEqual(raised_counts(vector, 2, 4, 3), (0, 0, 0, 0))
        self.assertEqual(raised_counts(vector, 3, 4, 3), (0, 0, 0, 0))
        self.assertEqual(raised_counts(vector, 3, 3, 3), (0, 5, 0, 5))
        self.assertEqual(raised_counts(vector, 4, 1, 3), (0, 0, 0, 0))
        self.assertEqual(whole_count(vector, 2, 0, 4), whole_count(vector, 2, 1, 4))
        self.assertEqual(whole_count(vector, 2, 1, 4), 3 * 17 + 10)
        self.assertEqual(whole_count(vector, 1, 0, 4), 4 * 17)
        self.assertEqual(whole_count(vector, 0, 0, 4), 4 * 17)
        self.assertEqual(whole_count(vector, 3, 2, 2), 10)
        self.assertEqual(whole_count(vector, 3, 2, 1), 0)
        self.assertEqual(whole_count(vector, 3, 3, 2), 0)
        self.assertEqual(whole_count(vector, 5, 1, 3), 0)

    def test_count_possible_room_by_room(self):
        dice = random.Random(910)
        houses = small_houses() + [SPIDER] + [random_house(list("hgfedcba"), seed) for seed in range(20)]
        for house in [each for each in houses if len(each) > 1] * 2:
            box = {}
            for room, near in rows(house).items():
                least = max(1, len(near) - dice.choice((0, 1, 1, 2)))
                box[room] = (least, least + dice.choice((0, 1, 3)))
            for rim in house.rooms():
                vector = vector_seen(house, box, rim, None)
                told = whole_count(vector, len(rows(house)[rim]), *box[rim])
                self.assertEqual(told, count_possible(house, box))

    def test_a_box_of_wiped_hours(self):
        box = wiped(ONE_ROOM, {"a": 3}, [], 5)
        self.assertEqual(whole_count((1, 0, 0, 0), 0, *box["a"]), count_possible(ONE_ROOM, box))

    def test_errors(self):
        right = (1, 2, 3, 4)
        for thing in any_objects() + NO_VECTORS:
            self.check_error(BadVector, {"thing": thing}, added_counts, thing, 5)
            self.check_error(BadVector, {"thing": thing}, added_counts, right, thing)
            for call in (raised_counts, whole_count):
                self.check_error(BadVector, {"thing": thing}, call, thing, -1, -1, -1)
        for call in (raised_counts, whole_count):
            self.check_things(BadNumber, no_numbers(0), call, right, None, "one", "other")
            self.check_things(BadNumber, no_numbers(0), call, right, 0, None, "other")
            self.check_things(BadNumber, no_numbers(0), call, right, 0, 5, None)

    def test_kept(self):
        self.check_kept(added_counts, [1, 2, 3, 4], (4, 3, 2, 1))
        self.check_kept(raised_counts, [1, 2, 3, 4], 2, 1, 4)
        self.check_kept(whole_count, [1, 2, 3, 4], 2, 1, 4)

    def test_great_ones(self):
        great = (10 ** 999 + 7, 10 ** 999 + 1, 3, 10 ** 998)
        self.assertEqual(added_counts(great, great)[0], great[0] ** 2)
        self.assertEqual(raised_counts(great, 40, 1, 100)[0], 60 * great[0])
        self.assertEqual(whole_count(great, 100, 0, 100), sum(great) + sum(great[:3]))
        for house in great_houses(20):
            box = {room: (1, 100) for room in house.rooms()}
            for rim in house.rooms()[::6]:
                vector = vector_seen(house, box, rim, None)
                self.assertEqual(whole_count(vector, len(rows(house)[rim]), 1, 100), count_possible(house, box))


if __name__ == "__main__":
    unittest.main()
