"""[67], and [71] on it: several lamps that all begin in one room."""

import random
import unittest

from lamplight.carryings import is_carrying
from lamplight.errors import BadLedger, BadNumber, NoRoom
from lamplight.houses import House
from lamplight.lodges import lodge_leads, lodge_rows, lodge_short, lodge_wanted
from tests.brute import (EXAMPLE, ONE_ROOM, SPIDER, TWO_ROOMS, as_ledger, fewest_rows, five_room_houses, great_houses,
                         great_ledger, ledger_rows, random_house, reached_ends, row_house, rows, small_houses,
                         star_house, walk_between)
from tests.checks import Checks, no_numbers, no_rooms, wrong_ledgers

RIGHT = {"a": 1, "b": 2, "c": 1, "d": 3}
CALLS = (lodge_wanted, lodge_leads, lodge_short)


def fewest_ending(most, pieces, some):
    """By the rows of hours of all sums of pieces, of at most so many hours: how few of these end in some rooms.

    Pieces are told by their rows of hours, with the last rooms that they can have.
    """
    costs = {row: min(int(last in some) for last in lasts) for row, lasts in pieces.items()}
    told = {}
    for hours in range(1, most + 1):
        for row, cost in costs.items():
            if sum(row) == hours:
                told[row] = min(cost, told.get(row, cost))
        for one in [row for row in told if sum(row) == hours]:
            for other, cost in costs.items():
                if sum(one) + sum(other) <= most:
                    both = tuple(a + b for a, b in zip(one, other))
                    told[both] = min(told[one] + cost, told.get(both, told[one] + cost))
    return told


class LodgesTest(Checks):
    def test_example(self):
        ledger = {**{room: 1 for room in SPIDER.rooms()}, "c": 2}
        self.assertEqual(lodge_short(SPIDER, ledger, "c"), "c")
        self.assertIsNone(lodge_leads(SPIDER, ledger, "c"))
        self.assertIsNone(lodge_wanted(SPIDER, ledger, "c"))
        ledger["c"] = 3
        self.assertIsNone(lodge_short(SPIDER, ledger, "c"))
        leads = lodge_leads(SPIDER, ledger, "c")
        self.assertEqual((leads, list(leads)), ({"a1": 1, "a2": 1, "a3": 1, "b1": 0, "b2": 0, "b3": 0}, sorted(leads)))
        self.assertEqual(lodge_wanted(SPIDER, ledger, "c"), 3)
        self.check_rows(SPIDER, ledger, "c", 3, lodge_rows(SPIDER, ledger, "c", 3))

    def check_rows(self, house, ledger, lodge, number, told):
        self.assertEqual((type(told), {type(row) for row in told}, len(told)), (list, {list}, number))
        self.assertTrue(all(is_carrying(house, row) and row[0] == lodge for row in told))
        self.assertEqual({room: sum(row.count(room) for row in told) for room in house.rooms()}, ledger)

    def test_all_ledgers(self):
        cases = [(house, 7 if len(house) < 4 else 6) for house in small_houses()]
        cases += [(house, 6) for house in five_room_houses()]
        for house, most in cases:
            walked = reached_ends(house, most)
            for lodge in house.rooms():
                begun = {row for row, pairs in walked.items() if any(first == lodge for first, _ in pairs)}
                fewest = fewest_rows(house, most, begun)
                for row in ledger_rows(house, most):
                    self.check_lodge(house, as_ledger(house, row), lodge, fewest.get(row))

    def check_lodge(self, house, ledger, lodge, fewest):
        self.assertEqual(lodge_wanted(house, ledger, lodge), fewest, (house.doors(), ledger, lodge))
        self.assertEqual(lodge_short(house, ledger, lodge) is None, fewest is not None)
        self.assertEqual(lodge_leads(house, ledger, lodge) is None, fewest is None)
        for number in range(1, ledger[lodge] + 3):
            told = lodge_rows(house, ledger, lodge, number)
            if fewest is None or not fewest <= number <= ledger[lodge]:
                self.assertIsNone(told)
            else:
                self.check_rows(house, ledger, lodge, number, told)

    def test_leads(self):
        """That as many lamps end in a branch as its own hours make at least, however many are ahead of it."""
        for house, most in [(house, 7) for house in small_houses()] + [(house, 7) for house in five_room_houses()]:
            walked = reached_ends(house, most)
            for lodge, room in [(one, far) for one in house.rooms() for far in rows(house)[one]]:
                pieces = {row: [last for first, last in pairs if first == lodge] for row, pairs in walked.items()}
                branch = [far for far in house.rooms() if room in walk_between(house, lodge, far)]
                fewest = fewest_ending(most, {row: lasts for row, lasts in pieces.items() if lasts}, branch)
                least = {}
                for row in fewest:
                    there = tuple(as_ledger(house, row)[far] for far in branch)
                    least[there] = min(fewest[row], least.get(there, fewest[row]))
                for row in fewest:
                    there = tuple(as_ledger(house, row)[far] for far in branch)
                    if sum(there) <= 3 and there[branch.index(room)]:
                        told = lodge_leads(house, as_ledger(house, row), lodge)
                        self.assertEqual(told[room], least[there], (house.doors(), row, lodge, room))

    def test_leads_by_their_rule(self):
        for house, hours in [(great_houses(30)[at], 60) for at in range(5)]:
            ledger = great_ledger(house, hours)
            near = rows(house)
            for lodge in house.rooms():
                told = lodge_leads(house, ledger, lodge)
                for room in told or []:
                    behind = [told[far] for far in near[room] if far not in walk_between(house, room, lodge)]
                    spare = ledger[room] - sum(max(lead, 1) for lead in behind)
                    self.assertGreaterEqual(spare, 0)
                    self.assertEqual(told[room], sum(behind) if any(behind) else int(spare == 0))

    def test_which_is_short(self):
        house = House(list("labcdef"), [("l", "a"), ("a", "b"), ("a", "c"), ("l", "d"), ("d", "e"), ("d", "f")])
        ones = {room: 1 for room in house.rooms()}
        self.assertEqual(lodge_short(house, ones, "l"), "a")
        self.assertEqual(lodge_short(house, {**ones, "a": 2}, "l"), "d")
        self.assertEqual(lodge_short(house, {**ones, "a": 2, "d": 2}, "l"), "l")
        self.assertIsNone(lodge_short(house, {**ones, "a": 2, "d": 2, "l": 2}, "l"))
        # Behind the lodge of b there is a, behind which d has too few hours.
        self.assertEqual(lodge_short(house, {**ones, "a": 2}, "b"), "d")
        self.assertEqual(lodge_short(house, {**ones, "a": 2, "d": 2}, "b"), None)

    def test_which_is_first_short(self):
        """That it is the first room whose own branch fails even from a lodge of many hours, while those behind go."""
        dice = random.Random(67)
        for seed in range(300):
            house = random_house(list("dhbfaceg"), seed)
            ledger = {room: dice.choice([1, 1, 1, 2, 2, 3]) for room in house.rooms()}
            lodge = dice.choice(house.rooms())
            goes = {room: self.branch_goes(house, ledger, lodge, room) for room in house.rooms()}
            goes[lodge] = lodge_wanted(house, ledger, lodge) is not None
            short = [room for room in house.rooms() if not goes[room]]
            outer = [room for room in short if not any(room in walk_between(house, lodge, far)
                                                       for far in short if far != room)]
            self.assertEqual(lodge_short(house, ledger, lodge), min(outer, default=None))

    def branch_goes(self, house, ledger, lodge, room):
        if room == lodge:
            return True
        ahead = walk_between(house, lodge, room)[-2]
        part = [far for far in house.rooms() if room in walk_between(house, lodge, far)]
        hours = {far: ledger[far] if far in part else 0 for far in ledger}
        return lodge_wanted(house, {**hours, ahead: 99}, ahead) is not None

    def test_dark_rooms(self):
        row = row_house(list("abcde"))
        self.assertEqual(lodge_short(row, {"a": 1, "b": 0, "c": 1, "d": 1, "e": 0}, "c"), "c")
        self.assertEqual(lodge_short(row, {"a": 0, "b": 0, "c": 1, "d": 1, "e": 0}, "b"), "b")
        self.assertEqual(lodge_short(row, {"a": 0, "b": 0, "c": 1, "d": 1, "e": 0}, "d"), None)
        self.assertEqual(lodge_leads(row, {"a": 0, "b": 0, "c": 1, "d": 1, "e": 0}, "d"), {"c": 0})
        for ledger, lodge in (({"a": 1, "b": 0, "c": 1, "d": 1, "e": 0}, "c"),
                              ({"a": 0, "b": 0, "c": 1, "d": 1, "e": 0}, "b")):
            self.assertIsNone(lodge_wanted(row, ledger, lodge))
            self.assertIsNone(lodge_leads(row, ledger, lodge))
            self.assertIsNone(lodge_rows(row, ledger, lodge, 1))

    def test_few_rooms(self):
        self.assertEqual([call(ONE_ROOM, {"a": 3}, "a") for call in CALLS], [1, {}, None])
        self.assertEqual(lodge_rows(ONE_ROOM, {"a": 3}, "a", 2), [["a"], ["a", "a"]])
        self.assertIsNone(lodge_rows(ONE_ROOM, {"a": 3}, "a", 4))
        self.assertEqual([call(TWO_ROOMS, {"a": 1, "b": 2}, "a") for call in CALLS], [1, {"b": 0}, None])
        self.assertEqual(lodge_rows(TWO_ROOMS, {"a": 1, "b": 2}, "a", 1), [["a", "b", "b"]])
        self.assertEqual([call(TWO_ROOMS, {"a": 0, "b": 2}, "a") for call in CALLS], [None, None, "a"])
        self.assertEqual([call(TWO_ROOMS, {"a": 0, "b": 2}, "b") for call in CALLS], [1, {}, None])

    def test_errors(self):
        for call in CALLS:
            self.check_things(BadLedger, wrong_ledgers(RIGHT), call, EXAMPLE, None, "zz")
            self.check_things(NoRoom, no_rooms(), call, EXAMPLE, RIGHT, None)
        self.check_things(BadLedger, wrong_ledgers(RIGHT), lodge_rows, EXAMPLE, None, "zz", 0)
        self.check_things(NoRoom, no_rooms(), lodge_rows, EXAMPLE, RIGHT, None, 0)
        self.check_things(BadNumber, no_numbers(1), lodge_rows, EXAMPLE, RIGHT, "a", None)
        self.check_things(BadNumber, no_numbers(1), lodge_rows, EXAMPLE, {**RIGHT, "a": 0}, "a", None)

    def test_kept(self):
        ledger = {"d": 1, "b": 3, "a": 1, "c": 2}
        for lodge in "abcd":
            for call in CALLS:
                self.check_kept(call, EXAMPLE, ledger, lodge)
            for number in (1, 2, 3):
                self.check_kept(lodge_rows, EXAMPLE, ledger, lodge, number)

    def test_great_ones(self):
        for house in great_houses(60):
            ledger = great_ledger(house, 400)
            lodge = house.rooms()[30]
            wanted = lodge_wanted(house, ledger, lodge)
            if wanted is None:
                self.assertIn(lodge_short(house, ledger, lodge), house.rooms())
            else:
                self.check_rows(house, ledger, lodge, wanted, lodge_rows(house, ledger, lodge, wanted))
                self.assertEqual(len(lodge_leads(house, ledger, lodge)), 59)
        star = star_house([f"r{k}" for k in range(30)])
        ledger = {room: 31 if room == "r0" else 1 for room in star.rooms()}
        self.assertEqual([lodge_wanted(star, ledger, room) for room in ("r0", "r1")], [1, 1])
        for number in (1, 15, 31):
            self.check_rows(star, ledger, "r0", number, lodge_rows(star, ledger, "r0", number))
        row = row_house([f"r{k}" for k in range(60)])
        self.check_rows(row, {room: 1 for room in row.rooms()}, "r0", 1,
                        lodge_rows(row, {room: 1 for room in row.rooms()}, "r0", 1))
        self.assertEqual(lodge_short(row, {room: 1 for room in row.rooms()}, "r1"), "r1")


if __name__ == "__main__":
    unittest.main()
