"""[69], and [71] on it: several lamps whose first and last rooms are told."""

import random
import unittest
from itertools import product

from lamplight.carryings import is_carrying
from lamplight.errors import BadEnds, BadLedger
from lamplight.toldends import bare_choices, rows_between
from tests.brute import (EXAMPLE, ONE_ROOM, SPIDER, TWO_ROOMS, any_objects, as_ledger, five_room_houses, great_houses,
                         ledger_rows, random_house, reached_ends, row_house, rows, small_houses, star_house,
                         walk_between)
from tests.checks import Checks, wrong_ledgers

RIGHT = {"a": 1, "b": 2, "c": 0, "d": 3}
CALLS = (rows_between, bare_choices)


def bases(house, ends):
    """What the document calls bases of rooms on ways, counted door by door."""
    twice = {}
    for first, last in ends:
        rooms = walk_between(house, first, last)
        for room in [first, last] + [room for pair in zip(rooms, rooms[1:]) for room in pair]:
            twice[room] = twice.get(room, 0) + 1
    return {room: many // 2 for room, many in twice.items()}


def are_choices(house, ledger, ends, told):
    on_ways = bases(house, ends)
    bare = [room for room in house.rooms() if ledger[room] and room not in on_ways]
    if list(told) != bare or any(ledger[room] == 0 for room in on_ways):
        return False
    for room, other in told.items():
        if other not in rows(house)[room] or ledger[other] == 0 or told.get(other) == room:
            return False
    spare = {room: ledger[room] - on_ways.get(room, 1) for room in house.rooms() if ledger[room]}
    return all(many >= list(told.values()).count(room) for room, many in spare.items())


def some_choices(house, ledger, ends):
    """Whether there are choices, all being tried."""
    bare = [room for room in house.rooms() if ledger[room] and room not in bases(house, ends)]
    return any(are_choices(house, ledger, ends, dict(zip(bare, tried)))
               for tried in product(*[rows(house)[room] for room in bare]))


class ToldEndsTest(Checks):
    def test_example(self):
        ledger = {**{room: 1 for room in SPIDER.rooms()}, "c": 2}
        ends = [("b1", "b2"), ("c", "a3")]
        self.assertIsNone(rows_between(SPIDER, ledger, ends))
        self.assertIsNone(bare_choices(SPIDER, ledger, ends))
        self.assertEqual(bare_choices(SPIDER, {**ledger, "a3": 2}, ends), {"b3": "a3"})
        self.check_rows(SPIDER, {**ledger, "a3": 2}, ends)
        self.assertEqual(bare_choices(SPIDER, ledger, [("b1", "b2"), ("c", "b3")]), {})
        self.check_rows(SPIDER, ledger, [("b1", "b2"), ("c", "b3")])

    def check_rows(self, house, ledger, ends):
        told = rows_between(house, ledger, ends)
        self.assertEqual((type(told), {type(row) for row in told}), (list, {list}))
        self.assertTrue(all(is_carrying(house, row) for row in told))
        self.assertEqual([(row[0], row[-1]) for row in told], [tuple(pair) for pair in ends])
        self.assertEqual({room: sum(row.count(room) for row in told) for room in house.rooms()}, ledger)
        choices = bare_choices(house, ledger, ends)
        self.assertTrue(are_choices(house, ledger, ends, choices), (house.doors(), ledger, ends, choices))

    def check_all(self, house, most, ends, sums):
        for row in ledger_rows(house, most):
            if row in sums:
                self.check_rows(house, as_ledger(house, row), ends)
            else:
                self.assertIsNone(rows_between(house, as_ledger(house, row), ends), (house.doors(), row, ends))
                self.assertIsNone(bare_choices(house, as_ledger(house, row), ends))

    def test_all_ledgers(self):
        dice = random.Random(69)
        cases = [(house, 7, 40) for house in small_houses()] + [(house, 6, 25) for house in five_room_houses()]
        for house, most, many in cases:
            walked = {}
            for row, pairs in reached_ends(house, most).items():
                for pair in pairs:
                    walked.setdefault(pair, []).append(row)
            lots = [[pair] for pair in walked]
            lots += [[dice.choice(list(walked)) for _ in range(dice.choice((2, 2, 3)))] for _ in range(many)]
            for ends in lots:
                sums = {tuple(0 for _ in house.rooms())}
                for pair in ends:
                    sums = {tuple(a + b for a, b in zip(one, other)) for one in sums for other in walked[pair]
                            if sum(one) + sum(other) <= most}
                self.check_all(house, most, ends, sums)

    def test_choices(self):
        dice = random.Random(690)
        found = [0, 0]
        for seed in range(700):
            house = SPIDER if seed % 8 == 0 else random_house(list("fedcbahg"), seed)
            ends = [(dice.choice(house.rooms()), dice.choice(house.rooms())) for _ in range(dice.choice((1, 1, 2)))]
            on_ways = bases(house, ends)
            ledger = {room: on_ways.get(room, 0) + dice.choice([0, 1, 1, 2]) for room in house.rooms()}
            there = some_choices(house, ledger, ends)
            found[there] += 1
            if there:
                self.check_rows(house, ledger, ends)
            else:
                self.assertIsNone(bare_choices(house, ledger, ends), (house.doors(), ledger, ends))
                self.assertIsNone(rows_between(house, ledger, ends))
        self.assertGreater(min(found), 100)

    def test_edges(self):
        row = row_house(list("abcde"))
        # A room of the way that is dark, a lit room that hangs on to none, a base that is too great.
        self.assertIsNone(rows_between(row, {"a": 1, "b": 0, "c": 1, "d": 0, "e": 0}, [("a", "c")]))
        self.assertIsNone(rows_between(row, {"a": 1, "b": 1, "c": 0, "d": 0, "e": 1}, [("a", "b")]))
        self.assertIsNone(rows_between(row, {"a": 9, "b": 1, "c": 1, "d": 0, "e": 0}, [("a", "c"), ("a", "b")]))
        self.assertEqual(rows_between(row, {"a": 2, "b": 2, "c": 1, "d": 0, "e": 0}, [("c", "a"), ("a", "b")]),
                         [["c", "b", "a"], ["a", "b"]])
        # The last but one chooses inward, the last one it.
        told = bare_choices(row, {"a": 1, "b": 1, "c": 2, "d": 2, "e": 1}, [["a", "c"]])
        self.assertEqual((told, list(told)), ({"d": "c", "e": "d"}, ["d", "e"]))
        self.assertIsNone(bare_choices(row, {"a": 1, "b": 1, "c": 1, "d": 2, "e": 2}, [["a", "c"]]))

    def test_few_rooms(self):
        self.assertEqual(rows_between(ONE_ROOM, {"a": 3}, [("a", "a"), ("a", "a")]), [["a", "a"], ["a"]])
        self.assertEqual(bare_choices(ONE_ROOM, {"a": 3}, [("a", "a")]), {})
        self.assertIsNone(rows_between(ONE_ROOM, {"a": 1}, [("a", "a"), ("a", "a")]))
        self.assertEqual(rows_between(TWO_ROOMS, {"a": 2, "b": 1}, [("a", "a")]), [["a", "b", "a"]])
        self.assertEqual(bare_choices(TWO_ROOMS, {"a": 2, "b": 1}, [("a", "a")]), {"b": "a"})
        self.assertIsNone(rows_between(TWO_ROOMS, {"a": 1, "b": 2}, [("a", "a")]))
        self.assertIsNone(bare_choices(TWO_ROOMS, {"a": 0, "b": 2}, [("a", "a")]))

    def test_errors(self):
        pair = ("a", "b")
        for call in CALLS:
            self.check_things(BadLedger, wrong_ledgers(RIGHT), call, EXAMPLE, None, [])
            for thing in any_objects():
                if not isinstance(thing, (list, tuple)) or not thing:
                    self.check_error(BadEnds, {"index": 0}, call, EXAMPLE, RIGHT, thing)
                self.check_error(BadEnds, {"index": 0}, call, EXAMPLE, RIGHT, [thing])
                self.check_error(BadEnds, {"index": 2}, call, EXAMPLE, RIGHT, [pair, ["a", "a"], thing, None])
                self.check_error(BadEnds, {"index": 1}, call, EXAMPLE, RIGHT, (pair, ("a", thing)))
                self.check_error(BadEnds, {"index": 1}, call, EXAMPLE, RIGHT, [pair, [thing, "a"], pair])
            for thing in ("ab", ["a"], ["a", "b", "c"], {"a": "b", "b": "a"}):
                self.check_error(BadEnds, {"index": 1}, call, EXAMPLE, RIGHT, [pair, thing])

    def test_kept(self):
        ledger = {"d": 2, "b": 4, "a": 1, "c": 2}
        for call in CALLS:
            for ends in ([("a", "c")], [["d", "d"], ("b", "a")], [("b", "b"), ("b", "b")], [("a", "d"), ("a", "d")]):
                self.check_kept(call, EXAMPLE, ledger, ends)

    def test_great_ones(self):
        for house in great_houses(30):
            near = rows(house)
            ends = [(house.rooms()[at], house.rooms()[(at * 7) % 30]) for at in (0, 3, 11)]
            on_ways = bases(house, ends)
            ledger = {room: on_ways.get(room, 0) + len(near[room]) for room in near}
            self.check_rows(house, ledger, ends)
            self.assertIsNone(bare_choices(house, {room: 1 for room in near}, [(house.rooms()[4], house.rooms()[4])]))
        star = star_house([f"r{k}" for k in range(30)])
        ledger = {room: 29 if room == "r0" else 1 for room in star.rooms()}
        self.check_rows(star, ledger, [("r1", "r2"), ("r0", "r3")])
        self.check_rows(star, ledger, [("r1", "r1"), ("r0", "r3")])
        self.assertIsNone(rows_between(star, {**ledger, "r0": 27}, [("r1", "r2"), ("r0", "r3")]))
        row = row_house([f"r{k}" for k in range(30)])
        twos = {room: 2 for room in row.rooms()}
        self.check_rows(row, {**twos, "r15": 3}, [("r15", "r15")])
        self.assertIsNone(rows_between(row, twos, [("r15", "r15")]))
        self.check_rows(row, twos, [("r29", "r0"), ("r0", "r29")])


if __name__ == "__main__":
    unittest.main()
