"""[55]: papers that no change that makes a ledger full costs so little."""

import random
import unittest

from lamplight.added import cheapest_added, wanted_hours
from lamplight.errors import BadLedger, BadNumber, BadPrices
from lamplight.pricepapers import is_price_paper, price_paper
from tests.brute import EXAMPLE, ONE_ROOM, TWO_ROOMS, any_objects, full_cases, great_houses, row_house, rows
from tests.checks import Checks, no_numbers, wrong_ledgers, wrong_prices

ONES = {room: 1 for room in "abcd"}
PRICES = {"a": 2, "b": 5, "c": 1, "d": 3}


def counted(house, ledger, prices):
    near = rows(house)
    wants = {room: ledger[room] < max(1, len(near[room])) for room in near}
    return {room: prices[room] * (wants[room] and len(near[room]) > 1) for room in near}


def is_paper_by_words(house, ledger, prices, budget, thing):
    near = rows(house)
    if sorted(thing) != sorted((room, other) for room in near for other in near[room]) or min(thing.values()) < 0:
        return False
    counts = counted(house, ledger, prices)
    for (room, other), number in thing.items():
        further = [counts[other] + thing[(other, third)] for third in near[other] if third != room]
        if number < max([counts[other]] + further):
            return False
    whole = sum(prices[room] * max(0, max(1, len(near[room])) - ledger[room]) for room in near)
    sums = [0]
    for room in near:
        sums += [thing[(room, one)] + counts[room] + thing[(room, other)]
                 for one in near[room] for other in near[room] if one != other]
        sums += [thing[(room, one)] for one in near[room]]
    return all(whole - each > budget for each in sums)


class PricePapersTest(Checks):
    def test_just_one(self):
        dice = random.Random(55)
        told = {True: 0, False: 0}
        for house, ledger, _ in full_cases(55, 500):
            prices = {room: dice.choice([1, 1, 2, 3, 9]) for room in house.rooms()}
            least, _ = cheapest_added(house, ledger, prices)
            for budget in {0, least - 1, least, least + 1, dice.randint(0, 40)} - {-1}:
                paper = price_paper(house, ledger, prices, budget)
                self.assertEqual(paper is None, least <= budget, "just one: a paper or a change of this price")
                told[paper is None] += 1
                if paper is not None:
                    pairs = [(room, other) for room, near in rows(house).items() for other in near]
                    self.assertEqual(list(paper), sorted(pairs))
                    self.check_least(house, ledger, prices, budget, paper)
        self.assertGreater(min(told.values()), 400)

    def check_least(self, house, ledger, prices, budget, paper):
        self.assertTrue(is_paper_by_words(house, ledger, prices, budget, paper))
        self.assertIs(is_price_paper(house, ledger, prices, budget, paper), True)
        self.assertIs(is_price_paper(house, ledger, prices, budget, dict(reversed(list(paper.items())))), True)
        for pair in paper:
            # Each number is as little as can be: one less makes its own room's condition fail.
            self.assertIs(is_price_paper(house, ledger, prices, budget, {**paper, pair: paper[pair] - 1}), False)

    def test_more_or_less(self):
        dice = random.Random(56)
        told = {True: 0, False: 0}
        for house, ledger, _ in full_cases(56, 400):
            prices = {room: dice.randint(1, 4) for room in house.rooms()}
            least, _ = cheapest_added(house, ledger, prices)
            budget = least - dice.randint(1, 4)
            paper = price_paper(house, ledger, prices, budget) if budget >= 0 else None
            if paper is None:
                continue
            for _ in range(8):
                thing = {pair: max(0, paper[pair] + dice.choice([0, 0, 0, 0, 1, 2, -1])) for pair in paper}
                right = is_paper_by_words(house, ledger, prices, budget, thing)
                self.assertIs(is_price_paper(house, ledger, prices, budget, thing), right)
                told[right] += 1
        self.assertGreater(min(told.values()), 200)

    def test_known(self):
        # b counts its price; two of it are wanted, so that one change costs 5.
        expected = {("a", "b"): 5, ("b", "a"): 0, ("b", "c"): 0, ("b", "d"): 0, ("c", "b"): 5, ("d", "b"): 5}
        for budget in range(5):
            self.assertEqual(price_paper(EXAMPLE, ONES, PRICES, budget), expected)
        self.assertIsNone(price_paper(EXAMPLE, ONES, PRICES, 5))
        self.assertIs(is_price_paper(EXAMPLE, ONES, PRICES, 4, expected), True)
        self.assertIs(is_price_paper(EXAMPLE, ONES, PRICES, 5, expected), False)
        self.assertEqual(wanted_hours(EXAMPLE, ONES), {"b": 2})

    def test_any_objects(self):
        right = price_paper(EXAMPLE, ONES, PRICES, 2)
        wrong = any_objects() + [list(right.items()), {**right, ("a", "c"): 0}, {**right, "a": 0}]
        for pair in right:
            wrong += [{**right, pair: thing} for thing in (-1, True, None, "1", [1])]
            wrong.append({other: right[other] for other in right if other != pair})
        for thing in wrong:
            self.assertIs(is_price_paper(EXAMPLE, ONES, PRICES, 2, thing), False)

    def test_few_rooms(self):
        self.assertIsNone(price_paper(ONE_ROOM, {"a": 1}, {"a": 3}, 0))
        self.assertIs(is_price_paper(ONE_ROOM, {"a": 1}, {"a": 3}, 0, {}), False)
        zeros = {("a", "b"): 0, ("b", "a"): 0}
        self.assertEqual(price_paper(TWO_ROOMS, {"a": 0, "b": 2}, {"a": 3, "b": 1}, 2), zeros)
        self.assertIsNone(price_paper(TWO_ROOMS, {"a": 0, "b": 2}, {"a": 3, "b": 1}, 3))
        self.assertIs(is_price_paper(TWO_ROOMS, {"a": 0, "b": 2}, {"a": 3, "b": 1}, 1, {**zeros, ("a", "b"): 1}), True)
        self.assertIs(is_price_paper(TWO_ROOMS, {"a": 0, "b": 2}, {"a": 3, "b": 1}, 2, {**zeros, ("a", "b"): 1}), False)

    def check_refused(self, error, thing, *arguments):
        self.check_error(error, {"thing": thing}, price_paper, EXAMPLE, *arguments)
        self.check_error(error, {"thing": thing}, is_price_paper, EXAMPLE, *arguments, None)

    def test_errors(self):
        for thing in wrong_ledgers(ONES):
            self.check_refused(BadLedger, thing, thing, None, None)
        for thing in wrong_prices(ONES):
            self.check_refused(BadPrices, thing, ONES, thing, None)
        for thing in no_numbers(0):
            self.check_refused(BadNumber, thing, ONES, PRICES, thing)

    def test_kept(self):
        ledger = {"d": 0, "b": 1, "a": 1, "c": 0}
        for budget in (0, 30):
            self.check_kept(price_paper, EXAMPLE, ledger, {"d": 1, "b": 1, "c": 2, "a": 5}, budget)
        paper = price_paper(EXAMPLE, ledger, PRICES, 0)
        self.check_kept(is_price_paper, EXAMPLE, ledger, {"d": 1, "b": 1, "c": 2, "a": 5}, 0, paper)

    def test_great_ones(self):
        for house in great_houses(30)[1:]:
            ledger = {room: int(room == house.rooms()[0]) for room in house.rooms()}
            prices = {room: 10 ** 8 + 7 * at for at, room in enumerate(house.rooms())}
            least, _ = cheapest_added(house, ledger, prices)
            paper = price_paper(house, ledger, prices, least - 1)
            self.check_least(house, ledger, prices, least - 1, paper)
            self.assertIsNone(price_paper(house, ledger, prices, least))
        row = row_house([f"r{k:02}" for k in range(30)])
        ledger = {room: int(room == "r00") for room in row.rooms()}
        paper = price_paper(row, ledger, {room: 10 ** 9 - 1 for room in ledger}, 10 ** 9 - 1)
        self.assertEqual(paper[("r00", "r01")], 28 * (10 ** 9 - 1))


if __name__ == "__main__":
    unittest.main()
