"""[64] to [66], and [71] on these: several lamps, and what branches ask."""

import random
import unittest
from itertools import product

from lamplight.carryings import is_carrying
from lamplight.errors import BadLedger, BadNumber
from lamplight.onelaw import holds
from lamplight.severallamps import branch_asks, is_lamp_rows, lamp_rows, lamps_wanted
from tests.brute import (EXAMPLE, ONE_ROOM, SPIDER, TWO_ROOMS, any_objects, as_ledger, fewest_rows, five_room_houses,
                         great_houses, great_ledger, ledger_rows, reached_rows, row_house, rows, small_houses,
                         star_house)
from tests.checks import Checks, no_numbers, wrong_ledgers

SPIDER_ONES = {**{room: 1 for room in SPIDER.rooms()}, "c": 2}
RIGHT = {"a": 1, "b": 2, "c": 0, "d": 3}
# What the four words count at a room, and whether they make a branch that lamps come from.
COUNTS = (2, 1, 2, 0)
COMES = (False, True, True, False)


def least_at(hours, asks, own, marked):
    """The least that some branches ask, and a room, by trying all words and all numbers of first and last rooms."""
    best = None
    for words in product(range(4), repeat=len(asks)):
        if any(ask[word] is None for ask, word in zip(asks, words)):
            continue
        for ends in range(2 * hours + 1):
            whole = own + ends + sum(COUNTS[word] for word in words)
            if whole % 2 or not 2 <= whole <= 2 * hours:
                continue
            if marked and not ends and not any(COMES[word] for word in words):
                continue
            asked = ends + sum(ask[word] for ask, word in zip(asks, words))
            best = asked if best is None else min(best, asked)
    return best


def asks_by_words(house, ledger):
    lit = {room: [far for far in near if ledger[far]] for room, near in rows(house).items() if ledger[room]}
    told = {}

    def ask(room, other):
        if (room, other) not in told:
            further = [ask(other, third) for third in lit[other] if third != room]
            told[(room, other)] = tuple(least_at(ledger[other], further, COUNTS[word], word in (2, 3))
                                        for word in range(4))
        return told[(room, other)]

    for room in lit:
        for other in lit[room]:
            ask(room, other)
    return {pair: told[pair] for pair in sorted(told)}


class SeveralLampsTest(Checks):
    def test_example(self):
        self.assertEqual(lamps_wanted(SPIDER, SPIDER_ONES), 2)
        asks = branch_asks(SPIDER, SPIDER_ONES)
        self.assertEqual(asks[("a1", "b1")], (0, 1, None, 2))
        self.assertEqual(asks[("c", "a1")], (2, 1, None, 2))
        given = [["b1", "a1", "c", "a2", "b2"], ["c", "a3", "b3"]]
        self.assertIs(is_lamp_rows(SPIDER, SPIDER_ONES, given), True)
        self.assertIs(is_lamp_rows(SPIDER, SPIDER_ONES, lamp_rows(SPIDER, SPIDER_ONES, 2)), True)

    def check_rows(self, house, ledger, number, told):
        self.assertEqual((type(told), {type(row) for row in told}), (list, {list}))
        self.assertEqual(len(told), number)
        self.assertTrue(all(is_carrying(house, row) for row in told))
        self.assertEqual({room: sum(row.count(room) for row in told) for room in house.rooms()}, ledger)
        self.assertIs(is_lamp_rows(house, ledger, told), True)

    def test_all_ledgers(self):
        cases = [(house, 8 if len(house) < 4 else 7) for house in small_houses()]
        cases += [(house, 6) for house in five_room_houses()]
        for house, most in cases:
            carried = reached_rows(house, most)
            fewest = fewest_rows(house, most, carried)
            for row in ledger_rows(house, most):
                ledger = as_ledger(house, row)
                least = fewest[row]
                self.assertEqual(lamps_wanted(house, ledger), least, (house.doors(), ledger))
                self.assertEqual(least == 1, holds(house, ledger))
                for number in range(1, sum(row) + 2):
                    told = lamp_rows(house, ledger, number)
                    if least <= number <= sum(row):
                        self.check_rows(house, ledger, number, told)
                    else:
                        self.assertIsNone(told)

    def test_several_lamps_in_greater_houses(self):
        fewest = fewest_rows(SPIDER, 7, reached_rows(SPIDER, 7))
        dice = random.Random(64)
        for row in dice.sample(sorted(fewest), 1500):
            ledger = as_ledger(SPIDER, row)
            self.assertEqual(lamps_wanted(SPIDER, ledger), fewest[row])
            self.check_rows(SPIDER, ledger, fewest[row], lamp_rows(SPIDER, ledger, fewest[row]))

    def test_what_branches_ask(self):
        dice = random.Random(66)
        for house in small_houses() + five_room_houses() + [SPIDER, star_house(list("mabcdef"))]:
            for _ in range(60):
                ledger = {room: dice.choice([0, 1, 1, 1, 2, 2, 3]) for room in house.rooms()}
                if any(ledger.values()):
                    told = branch_asks(house, ledger)
                    expected = asks_by_words(house, ledger)
                    self.assertEqual((told, list(told)), (expected, list(expected)), (house.doors(), ledger))
                    self.check_sums(house, ledger, told)

    def check_sums(self, house, ledger, told):
        """That at any room all doors together tell twice what its lit part wants."""
        for room, near in rows(house).items():
            if ledger[room]:
                lit = [far for far in near if ledger[far]]
                whole = least_at(ledger[room], [told[(room, far)] for far in lit], 0, True)
                part = {name: 0 for name in ledger}
                for name in self.part_of(house, ledger, room):
                    part[name] = ledger[name]
                self.assertEqual(whole, 2 * lamps_wanted(house, part))

    def part_of(self, house, ledger, room):
        found = [room]
        for one in found:
            found += [far for far in rows(house)[one] if ledger[far] and far not in found]
        return found

    def test_parts_want_by_themselves(self):
        row = row_house(list("abcdefg"))
        ledger = {"a": 1, "b": 0, "c": 2, "d": 1, "e": 0, "f": 0, "g": 3}
        self.assertEqual(lamps_wanted(row, ledger), 3)
        self.assertEqual(list(branch_asks(row, ledger)), [("c", "d"), ("d", "c")])
        self.check_rows(row, ledger, 3, lamp_rows(row, ledger, 3))
        self.check_rows(row, ledger, 7, lamp_rows(row, ledger, 7))
        self.assertIsNone(lamp_rows(row, ledger, 2))

    def test_is_lamp_rows(self):
        for right in ([["d", "b", "a"], ["b", "d", "d"]], [["d"], ["d"], ["d"], ["b"], ["b"], ["a"]],
                      [["d", "d", "d", "b", "b", "a"]], (("a", "b", "b", "d"), ["d", "d"])):
            self.assertIs(is_lamp_rows(EXAMPLE, RIGHT, right), True)
        wrong = any_objects() + [[thing] for thing in any_objects()] + [[["d", "b", "a"], thing] for thing in [[], None]]
        wrong += [[["a", "b", "b", "d", "d", "d"], []], [["a", "d"], ["b", "b", "d", "d"]], [["a", "b", "b", "d", "d"]],
                  [["a", "b", "b", "d", "d", "d"], ["c"]], [["a", "b", "b", "d", "d", "d"], ["a"]], [[["a"]]],
                  ["abbddd"], {"a": 1}, [["a", "b", "b", "d", "d", "zz"]], [["a", "b", "b", "b", "d", "d"]]]
        for thing in wrong:
            self.assertIs(is_lamp_rows(EXAMPLE, RIGHT, thing), False)

    def test_few_rooms(self):
        self.assertEqual((lamps_wanted(ONE_ROOM, {"a": 3}), branch_asks(ONE_ROOM, {"a": 3})), (1, {}))
        self.assertEqual(lamp_rows(ONE_ROOM, {"a": 3}, 3), [["a"], ["a"], ["a"]])
        self.assertIsNone(lamp_rows(ONE_ROOM, {"a": 3}, 4))
        self.assertEqual(lamps_wanted(TWO_ROOMS, {"a": 3, "b": 0}), 1)
        self.assertEqual(branch_asks(TWO_ROOMS, {"a": 3, "b": 0}), {})
        self.assertEqual(branch_asks(TWO_ROOMS, {"a": 1, "b": 2}),
                         {("a", "b"): (0, 1, 2, 2), ("b", "a"): (0, 1, None, 2)})

    def test_errors(self):
        for thing in wrong_ledgers(RIGHT):
            for call in (lamps_wanted, branch_asks):
                self.check_error(BadLedger, {"thing": thing}, call, EXAMPLE, thing)
            for call in (is_lamp_rows, lamp_rows):
                self.check_error(BadLedger, {"thing": thing}, call, EXAMPLE, thing, None)
        self.check_things(BadNumber, no_numbers(1), lamp_rows, EXAMPLE, RIGHT, None)

    def test_kept(self):
        ledger = {"d": 1, "b": 1, "a": 1, "c": 2}
        for call in (lamps_wanted, branch_asks):
            self.check_kept(call, EXAMPLE, ledger)
        for number in (1, 2, 3, 9):
            self.check_kept(lamp_rows, EXAMPLE, ledger, number)
        self.check_kept(is_lamp_rows, EXAMPLE, ledger, [["a", "b", "d"], ["c", "c"]])

    def test_great_ones(self):
        for house in great_houses(60):
            near = rows(house)
            ledger = great_ledger(house, 400)
            self.assertEqual(lamps_wanted(house, ledger), 1)
            self.assertEqual(len(branch_asks(house, ledger)), 118)
            ones = {room: 1 for room in near}
            number = lamps_wanted(house, ones)
            self.check_rows(house, ones, number, lamp_rows(house, ones, number))
            self.check_rows(house, ones, 60, lamp_rows(house, ones, 60))
            if number > 1:
                self.assertIsNone(lamp_rows(house, ones, number - 1))
        star = star_house([f"r{k}" for k in range(60)])
        # One lamp goes through the middle, each other leaf wants one of its own.
        self.assertEqual(lamps_wanted(star, {room: 1 for room in star.rooms()}), 58)
        self.assertEqual(lamps_wanted(star, {room: 30 if room == "r0" else 1 for room in star.rooms()}), 29)


if __name__ == "__main__":
    unittest.main()
