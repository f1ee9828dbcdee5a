"""[46] and [47]: prices of the possible ledgers of a box, ways that are dear, heights."""

import random
import unittest

from lamplight.errors import BadBox, BadNumber, BadPrices, NotPossible
from lamplight.houses import House
from lamplight.prices import are_heights, dear_way, heights, least_price
from tests.brute import (EXAMPLE, ONE_ROOM, SPIDER, TWO_ROOMS, all_ways, any_objects, great_houses, rows, three_arms,
                         walk_between)
from tests.checks import Checks, wrong_prices
from tests.test_boxes import random_boxes, wrong_boxes

TIGHT = {**{room: (1, 1) for room in "acd"}, "b": (1, 2)}
WIDE = {**TIGHT, "b": (1, 4)}
ONES = {room: 1 for room in "abcd"}
DEAR = {"a": 3, "b": 10 ** 9 - 1, "c": 1, "d": 7}


def worth_by_words(house, box, prices):
    told = {}
    for room, near in rows(house).items():
        doors = len(near)
        gain = doors >= 2 and box[room][0] <= doors - 1 <= box[room][1]
        tight = len(house) > 1 and box[room][1] == doors - 1
        told[room] = prices[room] * gain + (sum(prices.values()) + 1) * tight
    return told


def are_heights_by_words(house, worth, number, thing):
    near = rows(house)
    if sorted(thing) != sorted((room, other) for room in near for other in near[room]):
        return False
    for (room, other), height in thing.items():
        if height < 0 or height < worth[other]:
            return False
        if any(height < worth[other] + thing[(other, third)] for third in near[other] if third != room):
            return False
    tops = {room: sorted([thing[(room, other)] for other in near[room]])[-2:] for room in near}
    return all(worth[room] + sum(tops[room]) < number for room in near)


class PricesTest(Checks):
    def test_example(self):
        self.assertEqual(least_price(EXAMPLE, WIDE, ONES), 5)
        told = dear_way(EXAMPLE, WIDE, ONES)
        self.assertIn("b", told)
        self.assertLessEqual(told[0], told[-1])
        self.assertTrue(are_heights(EXAMPLE, WIDE, ONES, 2, heights(EXAMPLE, WIDE, ONES, 2)))
        self.assertIsNone(heights(EXAMPLE, WIDE, ONES, 1))

    def check(self, house, box, prices, possible):
        costs = [sum(hours * prices[room] for room, hours in zip(house.rooms(), row)) for row in possible]
        self.assertEqual(least_price(house, box, prices), min(costs))
        worth = worth_by_words(house, box, prices)
        most = max(sum(worth[room] for room in rooms) for rooms in all_ways(house))
        told = dear_way(house, box, prices)
        self.assertIs(type(told), list)
        self.assertEqual(told, walk_between(house, told[0], told[-1]))
        self.assertLessEqual(told[0], told[-1])
        self.assertEqual(sum(worth[room] for room in told), most)
        for number in {0, 1, most - 1, most, most + 1, most + 5}:
            if number >= 0:
                self.check_heights(house, box, prices, number, worth, most < number)

    def check_heights(self, house, box, prices, number, worth, some):
        told = heights(house, box, prices, number)
        self.assertEqual(told is not None, some, "just one: heights or a way of so much worth")
        if some:
            self.assertEqual(list(told), sorted((room, other) for room, near in rows(house).items() for other in near))
            self.assertTrue(are_heights_by_words(house, worth, number, told))
            self.assertIs(are_heights(house, box, prices, number, told), True)

    def test_all_ledgers_of_boxes(self):
        dice = random.Random(46)
        for seed, most in ((21, 3), (22, 2)):
            for house, box, possible in random_boxes(seed, 350, 0, most):
                prices = {room: dice.choice([1, 1, 2, 3, 9]) for room in house.rooms()}
                if possible:
                    self.check(house, box, prices, possible)
                else:
                    self.check_refused(NotPossible, {}, house, box, prices, 0)

    def check_refused(self, error, kept, house, box, prices, number):
        self.check_error(error, kept, least_price, house, box, prices)
        self.check_error(error, kept, dear_way, house, box, prices)
        self.check_error(error, kept, heights, house, box, prices, number)
        self.check_error(error, kept, are_heights, house, box, prices, number, None)

    def test_heights_more_or_less(self):
        dice = random.Random(47)
        told = {True: 0, False: 0}
        for house, box, possible in random_boxes(23, 250, 0, 3):
            if not possible:
                continue
            prices = {room: dice.randint(1, 4) for room in house.rooms()}
            worth = worth_by_words(house, box, prices)
            number = max(sum(worth[room] for room in rooms) for rooms in all_ways(house)) + dice.randint(1, 3)
            least = heights(house, box, prices, number)
            for _ in range(12):
                thing = {pair: max(0, least[pair] + dice.choice([0, 0, 0, 1, -1])) for pair in least}
                right = are_heights_by_words(house, worth, number, thing)
                self.assertIs(are_heights(house, box, prices, number, thing), right)
                self.assertIs(are_heights(house, box, prices, number, dict(reversed(list(thing.items())))), right)
                told[right] += 1
        self.assertGreater(min(told.values()), 200)

    def test_any_objects_are_no_heights(self):
        right = heights(EXAMPLE, WIDE, ONES, 2)
        wrong = any_objects() + [list(right.items()), {}, {**right, ("a", "c"): 0}, {**right, "a": 0}]
        for pair in right:
            wrong += [{**right, pair: thing} for thing in (-1, True, None, "1", [1])]
            wrong.append({other: right[other] for other in right if other != pair})
        for thing in wrong:
            self.assertIs(are_heights(EXAMPLE, WIDE, ONES, 2, thing), False)
        self.assertIs(are_heights(EXAMPLE, WIDE, ONES, 2, right), True)
        self.assertIs(are_heights(EXAMPLE, WIDE, ONES, 1, right), False)

    def test_tight_rooms_are_on_the_way(self):
        box = {room: (1, 9) for room in SPIDER.rooms()}
        prices = {**{room: 1 for room in SPIDER.rooms()}, "a1": 100, "a2": 100}
        self.assertEqual(dear_way(SPIDER, box, prices)[0][1:] + dear_way(SPIDER, box, prices)[-1][1:], "12")
        told = dear_way(SPIDER, {**box, "a3": (1, 1)}, prices)
        self.assertIn("a3", told)
        self.assertTrue("a1" in told or "a2" in told)
        # A tight room's own price counts besides.
        self.assertIsNone(heights(SPIDER, {**box, "a3": (1, 1)}, prices, 205 + 1 + 1 + 1 + 100))
        self.assertIsNotNone(heights(SPIDER, {**box, "a3": (1, 1)}, prices, 205 + 1 + 1 + 1 + 100 + 1))

    def test_few_rooms(self):
        self.assertEqual(least_price(ONE_ROOM, {"a": (3, 5)}, {"a": 4}), 12)
        self.assertEqual(dear_way(ONE_ROOM, {"a": (3, 5)}, {"a": 4}), ["a"])
        self.assertEqual(heights(ONE_ROOM, {"a": (3, 5)}, {"a": 4}, 1), {})
        self.assertIsNone(heights(ONE_ROOM, {"a": (3, 5)}, {"a": 4}, 0))
        self.assertIs(are_heights(ONE_ROOM, {"a": (3, 5)}, {"a": 4}, 0, {}), False)
        self.assertIs(are_heights(ONE_ROOM, {"a": (3, 5)}, {"a": 4}, 1, {}), True)
        box = {"a": (1, 5), "b": (2, 2)}
        self.assertEqual(least_price(TWO_ROOMS, box, {"a": 5, "b": 7}), 19)
        self.assertEqual(heights(TWO_ROOMS, box, {"a": 5, "b": 7}, 1), {("a", "b"): 0, ("b", "a"): 0})

    def test_errors(self):
        for thing in wrong_boxes(TIGHT) + [{**TIGHT, room: (0, 5)} for room in TIGHT]:
            self.check_refused(BadBox, {"thing": thing}, EXAMPLE, thing, None, None)
        self.check_refused(NotPossible, {}, EXAMPLE, {**TIGHT, "b": (1, 1)}, None, None)
        for thing in wrong_prices(ONES):
            self.check_refused(BadPrices, {"thing": thing}, EXAMPLE, WIDE, thing, None)
        for thing in any_objects() + [-5]:
            if type(thing) is not int or thing < 0:
                self.check_error(BadNumber, {"thing": thing}, heights, EXAMPLE, WIDE, ONES, thing)
                self.check_error(BadNumber, {"thing": thing}, are_heights, EXAMPLE, WIDE, ONES, thing, {})

    def test_kept(self):
        box = {"d": (1, 1), "b": (1, 3), "a": (1, 2), "c": (1, 1)}
        prices = {"c": 2, "a": 1, "b": 5, "d": 1}
        self.check_kept(least_price, EXAMPLE, box, prices)
        self.check_kept(dear_way, EXAMPLE, box, prices)
        self.check_kept(heights, EXAMPLE, box, prices, 6)
        self.check_kept(heights, EXAMPLE, box, prices, 5)
        self.check_kept(are_heights, EXAMPLE, box, prices, 6, heights(EXAMPLE, box, prices, 6))

    def test_great_ones(self):
        self.assertEqual(least_price(EXAMPLE, WIDE, DEAR), 2 * DEAR["b"] + 11)
        for house in great_houses(30):
            near = rows(house)
            names = house.rooms()
            box = {room: (1, 100) for room in near}
            prices = {room: 10 ** 8 + 17 * at for at, room in enumerate(names)}
            told = dear_way(house, box, prices)
            inner = [room for room in told if len(near[room]) > 1]
            worth = sum(prices[room] for room in inner)
            self.assertEqual(least_price(house, box, prices),
                             sum(len(near[room]) * prices[room] for room in near) - worth)
            self.assertIsNone(heights(house, box, prices, worth))
            least = heights(house, box, prices, worth + 1)
            self.assertTrue(are_heights(house, box, prices, worth + 1, least))
            self.assertFalse(are_heights(house, box, prices, worth, least))

    def test_great_ones_of_known_prices(self):
        arms = three_arms((9, 10, 10))
        box = {room: (1, 100) for room in arms.rooms()}
        prices = {room: 5 if room[0] == "x" else 2 for room in arms.rooms()}
        way = dear_way(arms, box, prices)
        self.assertEqual(sum(prices[room] for room in way if len(rows(arms)[room]) > 1), 8 * 5 + 9 * 2 + 2)
        self.assertEqual({room[0] for room in way} & {"x", "m"}, {"x", "m"})
        row = House(["b", "a"], [("a", "b")])
        self.assertEqual(dear_way(row, {"a": (1, 1), "b": (1, 1)}, {"a": 1, "b": 1})[0], "a")


if __name__ == "__main__":
    unittest.main()
