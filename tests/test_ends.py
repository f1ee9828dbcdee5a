"""[24] to [27]: first and last rooms."""

import unittest
from itertools import combinations

from lamplight.ends import back_at, barred, carrying_between, count_ends, ends, lacking, lasts, needs
from lamplight.errors import BadLedger, NoRoom
from lamplight.houses import House
from lamplight.onelaw import claim_fault
from tests.brute import (EXAMPLE, ONE_ROOM, TWO_ROOMS, as_ledger, by_ledgers, carryings_of, five_room_houses,
                         great_houses, great_ledger, ledger_rows, random_ledgers, row_house, rows, small_houses,
                         star_house, three_arms, walk_between)
from tests.checks import Checks, dark_ledgers, no_rooms, wrong_ledgers

ROW = row_house(list("abcd"))
HOURS = {"a": 1, "b": 1, "c": 3, "d": 1}


def needs_by_words(house, first, last):
    told = {room: len(near) for room, near in rows(house).items()}
    for room in walk_between(house, first, last)[1:-1]:
        told[room] -= 1
    if first == last:
        told[first] += 1
    return told


def barred_by_words(house, ledger, first):
    near = rows(house)
    less = [room for room in near if ledger[room] < len(near[room]) - 1]
    short = [room for room in near if ledger[room] == len(near[room]) - 1]
    forks = [(one, other) for one, other in combinations(short, 2)
             if one not in walk_between(house, first, other) and other not in walk_between(house, first, one)]
    if less:
        return ("less", less[0])
    if first in short:
        return ("short", first)
    return ("fork",) + forks[0] if forks else None


class EndsTest(Checks):
    def test_example(self):
        self.assertEqual(needs(ROW, "a", "d"), {"a": 1, "b": 1, "c": 1, "d": 1})
        self.assertEqual(needs(ROW, "a", "c"), {"a": 1, "b": 1, "c": 2, "d": 1})
        self.assertEqual(ends(ROW, HOURS), [("a", "c"), ("a", "d"), ("c", "a"), ("d", "a")])
        self.assertEqual(count_ends(ROW, HOURS), 4)
        self.assertEqual(lasts(ROW, HOURS, "b"), [])
        self.assertEqual(barred(ROW, HOURS, "b"), ("short", "b"))
        self.assertEqual(lasts(ROW, HOURS, "a"), ["c", "d"])
        self.assertEqual(back_at(ROW, HOURS), [])
        self.assertEqual(lacking(ROW, HOURS, "c", "d"), ("b", 1, 2))
        self.assertEqual(carrying_between(ROW, HOURS, "a", "d"), list("abcccd"))
        self.assertIsNone(lacking(ROW, HOURS, "a", "d"))

    def check(self, house, ledger, there):
        pairs = sorted({(walk[0], walk[-1]) for walk in there})
        told = ends(house, ledger)
        self.assertEqual(told, pairs)
        self.assertEqual([type(pair) for pair in told], [tuple] * len(told))
        self.assertEqual(count_ends(house, ledger), len(pairs))
        self.assertEqual(back_at(house, ledger), [first for first, last in pairs if first == last])
        for first in house.rooms():
            expected = [last for one, last in pairs if one == first]
            self.assertEqual(lasts(house, ledger, first), expected)
            told = barred(house, ledger, first)
            self.assertEqual(told, barred_by_words(house, ledger, first))
            self.assertEqual(told is None, expected != [])
            for last in house.rooms():
                self.check_between(house, ledger, first, last, there)

    def check_between(self, house, ledger, first, last, there):
        wanted = needs_by_words(house, first, last)
        less = [(room, ledger[room], wanted[room]) for room in wanted if ledger[room] < wanted[room]]
        self.assertEqual(lacking(house, ledger, first, last), less[0] if less else None)
        told = carrying_between(house, ledger, first, last)
        self.assertEqual(told is None, less != [])
        self.assertEqual(any((walk[0], walk[-1]) == (first, last) for walk in there), less == [])
        if told is not None:
            self.assertIs(type(told), list)
            self.assertEqual((told[0], told[-1]), (first, last))
            self.assertIn(tuple(told), there)

    def test_all_ledgers_of_a_few_hours(self):
        for house, most in [(house, 8) for house in small_houses()] + [(house, 8) for house in five_room_houses()]:
            there = by_ledgers(house, most)
            for row in ledger_rows(house, most):
                if 0 not in row:
                    self.check(house, as_ledger(house, row), there.get(row, []))

    def test_greater_houses(self):
        for house, ledger in random_ledgers(2, 60, (6, 7, 8), 13):
            self.check(house, ledger, carryings_of(house, ledger))

    def test_needs(self):
        for house in small_houses() + five_room_houses():
            for first in house.rooms():
                for last in house.rooms():
                    told = needs(house, first, last)
                    self.assertEqual(told, needs_by_words(house, first, last))
                    self.assertEqual(list(told), house.rooms())
        self.assertEqual(needs(ONE_ROOM, "a", "a"), {"a": 1})
        self.assertEqual(needs(TWO_ROOMS, "a", "b"), {"a": 1, "b": 1})
        self.assertEqual(needs(TWO_ROOMS, "b", "b"), {"a": 1, "b": 2})

    def test_few_rooms(self):
        self.assertEqual(ends(ONE_ROOM, {"a": 1}), [("a", "a")])
        self.assertEqual(back_at(ONE_ROOM, {"a": 2}), ["a"])
        self.assertIsNone(barred(ONE_ROOM, {"a": 1}, "a"))
        self.assertEqual(ends(TWO_ROOMS, {"a": 1, "b": 2}), [("a", "b"), ("b", "a"), ("b", "b")])
        self.assertEqual(carrying_between(ONE_ROOM, {"a": 2}, "a", "a"), ["a", "a"])
        self.assertEqual(carrying_between(TWO_ROOMS, {"a": 1, "b": 2}, "b", "b"), ["b", "a", "b"])

    def test_the_first_fork(self):
        house = three_arms((2, 2, 2))
        ledger = {"m": 3, "x0": 1, "y0": 1, "z0": 1, "x1": 1, "y1": 1, "z1": 1}
        self.assertEqual(barred(house, ledger, "x1"), ("fork", "y0", "z0"))
        self.assertEqual(barred(house, ledger, "m"), ("fork", "x0", "y0"))
        self.assertEqual(barred(house, {**ledger, "z0": 2}, "x1"), None)
        self.assertEqual(barred(house, {**ledger, "m": 1}, "x1"), ("less", "m"))
        self.assertEqual(barred(house, {**ledger, "m": 2}, "m"), ("short", "m"))

    def test_the_first_room_with_less(self):
        doors = [("y", "x")] + [(room, room + at) for room in "xy" for at in "012"]
        house = House(["y", "x"] + [far for _, far in doors[1:]], doors)
        ledger = {room: 1 for room in house.rooms()}
        self.assertEqual(barred(house, ledger, "y0"), ("less", "x"))
        self.assertEqual(barred(house, {**ledger, "x": 3}, "x"), ("less", "y"))
        self.assertEqual(barred(house, {**ledger, "x": 3, "y": 3}, "x"), ("short", "x"))
        self.assertEqual(lacking(house, ledger, "y0", "y1"), ("x", 1, 4))
        self.assertEqual(lacking(house, {**ledger, "x": 9}, "y0", "y1"), ("y", 1, 3))

    def test_errors(self):
        right = {"a": 1, "b": 2, "c": 1, "d": 1}
        wrong = wrong_ledgers(right) + dark_ledgers(right)
        for call in (ends, count_ends, back_at):
            self.check_things(BadLedger, wrong, call, EXAMPLE, None)
        for call in (lasts, barred):
            self.check_things(BadLedger, wrong, call, EXAMPLE, None, "zz")
            self.check_things(NoRoom, no_rooms(), call, EXAMPLE, right, None)
        for call in (carrying_between, lacking):
            self.check_things(BadLedger, wrong, call, EXAMPLE, None, "zz", "zz")
            for thing in no_rooms():
                self.check_error(NoRoom, {"thing": thing}, call, EXAMPLE, right, thing, "yy")
                self.check_error(NoRoom, {"thing": thing}, call, EXAMPLE, right, "a", thing)
        for thing in no_rooms():
            self.check_error(NoRoom, {"thing": thing}, needs, EXAMPLE, thing, "yy")
            self.check_error(NoRoom, {"thing": thing}, needs, EXAMPLE, "a", thing)

    def test_kept(self):
        ledger = {"d": 1, "b": 3, "a": 2, "c": 1}
        for call in (ends, count_ends, back_at):
            self.check_kept(call, EXAMPLE, ledger)
        for call in (lasts, barred):
            self.check_kept(call, EXAMPLE, ledger, "a")
            self.check_kept(call, EXAMPLE, {**ledger, "b": 2}, "b")
        for call in (carrying_between, lacking):
            self.check_kept(call, EXAMPLE, ledger, "a", "c")
            self.check_kept(call, EXAMPLE, ledger, "b", "b")
        self.check_kept(needs, EXAMPLE, "a", "c")

    def test_great_ones(self):
        for house in great_houses(40):
            ledger = great_ledger(house, 300)
            self.assertIsNone(barred(house, ledger, house.rooms()[5]))
            pairs = ends(house, ledger)
            backs = [room for room in house.rooms() if ledger[room] > len(rows(house)[room])]
            self.assertEqual(back_at(house, ledger), backs)
            self.assertEqual(len(pairs), 40 * 39 + len(backs))
            self.assertEqual(count_ends(house, ledger), len(pairs))
            self.assertEqual(lasts(house, ledger, pairs[0][0]), [last for first, last in pairs if first == pairs[0][0]])
            for first, last in pairs[::311]:
                told = carrying_between(house, ledger, first, last)
                self.assertIsNone(claim_fault(house, ledger, told))
                self.assertEqual((told[0], told[-1]), (first, last))

    def test_short_rooms_of_great_ones(self):
        row, star = great_houses(40)[:2]
        self.assertEqual(ends(row, {room: 1 for room in row.rooms()}), [("r0", "r39"), ("r39", "r0")])
        ledger = {room: 38 if room == "r0" else 6 for room in star.rooms()}
        self.assertEqual(count_ends(star, ledger), 39 * 38)
        self.assertEqual(barred(star, ledger, "r0"), ("short", "r0"))
        arms = three_arms((13, 13, 13))
        ones = {room: 3 if room == "m" else 1 for room in arms.rooms()}
        self.assertEqual(barred(arms, ones, "x12"), ("fork", "y0", "z0"))
        self.assertEqual(ends(arms, ones), [])


class StarTest(Checks):
    def test_turned_about(self):
        house = star_house(list("bacd"))
        for ledger in ({"a": 1, "b": 2, "c": 1, "d": 1}, {"a": 2, "b": 3, "c": 1, "d": 1}):
            told = ends(house, ledger)
            self.assertEqual(sorted((last, first) for first, last in told), told)


if __name__ == "__main__":
    unittest.main()
