"""[35] to [37] and [41]: how many carryings a ledger has."""

import unittest
from itertools import product
from math import factorial, prod

from lamplight.carryings import passes, stays_by
from lamplight.counting import count_between, count_carryings, count_with, ends_table, own_reverses, rows_behind
from lamplight.errors import BadLedger, BadPasses, NoDoor, NoRoom
from lamplight.leastledgers import least_ledgers
from lamplight.ledgers import ledger_of
from lamplight.onelaw import paper_of
from tests.brute import (EXAMPLE, ONE_ROOM, SPIDER, TWO_ROOMS, any_objects, as_ledger, by_ledgers, carryings_of,
                         five_room_houses, great_houses, great_ledger, ledger_rows, random_ledgers, row_house, rows,
                         small_houses, star_house)
from tests.checks import Checks, no_rooms, wrong_ledgers
from tests.test_leavinglists import long_walk

RIGHT = {"a": 1, "b": 2, "c": 1, "d": 1}


def tables(there):
    """How many of some carryings there are by first and last room, and by passes, too."""
    by_ends = {}
    for walk in there:
        by_ends[(walk[0], walk[-1])] = by_ends.get((walk[0], walk[-1]), 0) + 1
    return by_ends


def rows_by_trying(house, ledger, room, other):
    """What rows_behind tells, by going on with all rows hour by hour."""
    near = rows(house)
    inside = [other]
    for name in inside:
        inside += [far for far in near[name] if far != room and far not in inside]
    left = {name: ledger[name] for name in inside}

    def lit(name, call, *more):
        if left[name] == 0:
            return 0
        left[name] -= 1
        told = call(name, *more)
        left[name] += 1
        return told

    def go_on(here, more):
        """In how many ways the row goes on from here, with so many more carryings."""
        if not any(left.values()):
            return int(here == other and more == 0)
        told = sum(lit(far, go_on, more) for far in near[here] + [here] if far in inside)
        return told + (lit(other, go_on, more - 1) if here == other and more else 0)

    visits = [lit(other, go_on, many - 1) if many else int(not any(left.values()))
              for many in range(ledger[other] + 1)]
    begun = [sum(lit(name, go_on, many) for name in inside) for many in range(ledger[other] + 1)]
    return (visits, begun)


class CountTest(Checks):
    def test_example(self):
        self.assertEqual(count_carryings(EXAMPLE, RIGHT), 6)
        pairs = [(one, other) for one in "acd" for other in "acd" if one != other]
        self.assertEqual(ends_table(EXAMPLE, RIGHT), {pair: 1 for pair in pairs})
        more = {**RIGHT, "b": 3}
        self.assertEqual(count_carryings(EXAMPLE, more), 24)
        expected = {pair: 2 for pair in pairs}
        expected.update({("b", one): 2 for one in "acd"})
        expected.update({(one, "b"): 2 for one in "acd"})
        self.assertEqual(ends_table(EXAMPLE, more), expected)
        self.assertEqual(rows_behind(EXAMPLE, RIGHT, "b", "a"), ([0, 1], [1, 0]))

    def check(self, house, ledger, there):
        table = tables(there)
        self.assertEqual(count_carryings(house, ledger), len(there))
        told = ends_table(house, ledger)
        self.assertEqual(list(told.items()), sorted(table.items()))
        for first, last in product(house.rooms(), repeat=2):
            self.assertEqual(count_between(house, ledger, first, last), table.get((first, last), 0))
            self.assertEqual(count_between(house, ledger, last, first), table.get((first, last), 0))
        self.assertEqual(own_reverses(house, ledger), sum(walk == walk[::-1] for walk in there))
        self.assertEqual(own_reverses(house, ledger) % 2, len(there) % 2)
        self.assertEqual(len(there) == 0, paper_of(house, ledger) is not None)

    def check_passes(self, house, ledger, there):
        table = {}
        for walk in there:
            key = (tuple(passes(house, walk).items()), walk[0], walk[-1])
            table[key] = table.get(key, 0) + 1
        for (counted, first, last), many in table.items():
            self.assertEqual(count_with(house, ledger, dict(counted), first, last), many)

    def test_all_ledgers_of_a_few_hours(self):
        for house, most in [(house, 7) for house in small_houses()] + [(house, 7) for house in five_room_houses()]:
            there = by_ledgers(house, most)
            for row in ledger_rows(house, most):
                self.check(house, as_ledger(house, row), there.get(row, []))
                self.check_passes(house, as_ledger(house, row), there.get(row, []))

    def test_greater_houses(self):
        for house, ledger in random_ledgers(7, 30, (5, 6, 7), 12):
            there = carryings_of(house, ledger)
            self.check(house, ledger, there)
            self.check_passes(house, ledger, there)

    def test_least_ones(self):
        # Where inner rooms are all short, and on one way, only leaves beside the same room can change places.
        for house in small_houses() + five_room_houses() + [star_house(list("gabcdef"))]:
            near = rows(house)
            inner = [room for room in near if len(near[room]) > 1]
            ledger = {room: max(1, len(near[room]) - 1) for room in near}
            if len(house) > 2 and ledger in least_ledgers(house):
                leaves = prod(factorial(sum(len(near[far]) == 1 for far in near[room])) for room in inner)
                expected = leaves * (2 if len(inner) > 1 else 1)
                self.assertEqual(count_carryings(house, ledger), expected)
        for house in small_houses()[1:] + five_room_houses():
            for row in ledger_rows(house, 6):
                if 0 not in row:
                    self.assertNotEqual(count_carryings(house, as_ledger(house, row)), 1)

    def test_few_rooms(self):
        self.assertEqual(count_carryings(ONE_ROOM, {"a": 30}), 1)
        self.assertEqual(ends_table(ONE_ROOM, {"a": 30}), {("a", "a"): 1})
        self.assertEqual(own_reverses(ONE_ROOM, {"a": 30}), 1)
        self.assertEqual(count_between(TWO_ROOMS, {"a": 2, "b": 0}, "a", "a"), 1)
        self.assertEqual(count_between(TWO_ROOMS, {"a": 2, "b": 0}, "a", "b"), 0)
        self.assertEqual(count_carryings(TWO_ROOMS, {"a": 3, "b": 4}), 35)
        self.assertEqual(ends_table(EXAMPLE, {"a": 1, "b": 0, "c": 1, "d": 0}), {})
        self.assertEqual(count_with(ONE_ROOM, {"a": 5}, {}, "a", "a"), 1)

    def test_errors(self):
        wrong = wrong_ledgers(RIGHT)
        for call in (count_carryings, ends_table, own_reverses):
            self.check_things(BadLedger, wrong, call, EXAMPLE, None)
        self.check_things(BadLedger, wrong, count_between, EXAMPLE, None, "zz", "zz")
        self.check_things(BadLedger, wrong, rows_behind, EXAMPLE, None, "zz", "zz")
        self.check_things(BadLedger, wrong, count_with, EXAMPLE, None, None, "zz", "zz")
        counted = passes(EXAMPLE, list("abcbd"))
        bad = any_objects() + [{**counted, ("a", "b"): -1}, {**counted, ("a", "c"): 0}, {("a", "b"): 1}]
        self.check_things(BadPasses, bad, count_with, EXAMPLE, RIGHT, None, "zz", "zz")
        for thing in no_rooms():
            kept = {"thing": thing}
            for ledger in (RIGHT, {**RIGHT, "b": 1}):
                self.check_error(NoRoom, kept, count_between, EXAMPLE, ledger, thing, "yy")
                self.check_error(NoRoom, kept, count_between, EXAMPLE, ledger, "a", thing)
                self.check_error(NoRoom, kept, rows_behind, EXAMPLE, ledger, thing, "yy")
                self.check_error(NoRoom, kept, rows_behind, EXAMPLE, ledger, "a", thing)
                self.check_error(NoRoom, kept, count_with, EXAMPLE, ledger, counted, thing, "yy")
                self.check_error(NoRoom, kept, count_with, EXAMPLE, ledger, counted, "a", thing)
        for one, other in (("a", "a"), ("a", "c"), ("c", "d")):
            self.check_error(NoDoor, {"one": one, "other": other}, rows_behind, EXAMPLE, RIGHT, one, other)

    def test_kept(self):
        ledger = {"d": 1, "b": 4, "a": 2, "c": 1}
        for call in (count_carryings, ends_table, own_reverses):
            self.check_kept(call, EXAMPLE, ledger)
        self.check_kept(count_between, EXAMPLE, ledger, "a", "b")
        self.check_kept(rows_behind, EXAMPLE, ledger, "a", "b")
        self.check_kept(rows_behind, EXAMPLE, ledger, "b", "a")
        self.check_kept(count_with, EXAMPLE, ledger, passes(EXAMPLE, list("abcbdb")), "a", "b")


class GivenPassesTest(Checks):
    def test_all_passes(self):
        # Of all passes of up to two, in a row and a star, those of no carrying have none.
        for house, most in ((row_house(list("acb")), 2), (TWO_ROOMS, 4)):
            pairs = [(room, far) for room, near in rows(house).items() for far in near]
            there = by_ledgers(house, 6)
            counts = {}
            for walk in [walk for walks in there.values() for walk in walks]:
                key = (tuple(passes(house, walk).values()), walk[0], walk[-1], tuple(ledger_of(house, walk).values()))
                counts[key] = counts.get(key, 0) + 1
            for row in ledger_rows(house, 6):
                for many in product(range(most + 1), repeat=len(pairs)):
                    for first, last in product(house.rooms(), repeat=2):
                        told = count_with(house, as_ledger(house, row), dict(zip(pairs, many)), first, last)
                        self.assertEqual(told, counts.get((many, first, last, row), 0))

    def test_a_lit_room_without_a_stay(self):
        counted = passes(EXAMPLE, ["a"])
        self.assertEqual(count_with(EXAMPLE, {"a": 2, "b": 0, "c": 0, "d": 0}, counted, "a", "a"), 1)
        self.assertEqual(count_with(EXAMPLE, {"a": 2, "b": 1, "c": 0, "d": 0}, counted, "a", "a"), 0)
        self.assertEqual(count_with(EXAMPLE, {"a": 0, "b": 1, "c": 0, "d": 0}, counted, "a", "a"), 0)
        self.assertEqual(count_with(EXAMPLE, {"a": 2, "b": 1, "c": 0, "d": 0}, counted, "a", "b"), 0)

    def test_great_ones(self):
        for house in great_houses(40):
            walk = long_walk(house, house.rooms()[3], 210)
            ledger, counted = ledger_of(house, walk), passes(house, walk)
            told = count_with(house, ledger, counted, walk[0], walk[-1])
            self.assertGreater(told, 0)
            stays = stays_by(house, counted, walk[0], walk[-1])
            least = {room: max(stays[room], 1) if ledger[room] else 0 for room in stays}
            # With no hour more than stays nothing can be waited, so there is a factor for each room's hours.
            self.assertEqual(told % count_with(house, least, counted, walk[0], walk[-1]), 0)


class RowsBehindTest(Checks):
    def test_by_trying(self):
        cases = [(house, 6) for house in small_houses()[1:]] + [(house, 5) for house in five_room_houses()]
        for house, most in cases:
            for row in ledger_rows(house, most):
                self.check(house, as_ledger(house, row))

    def check(self, house, ledger):
        for room, near in rows(house).items():
            for other in near:
                told = rows_behind(house, ledger, room, other)
                expected = rows_by_trying(house, ledger, room, other)
                self.assertEqual(told, expected, (house.doors(), ledger, room, other))
                self.assertEqual([type(told), type(told[0]), type(told[1])], [tuple, list, list])

    def test_greater_houses(self):
        for house, ledger in random_ledgers(8, 20, (5, 6), 11):
            self.check(house, ledger)

    def test_dark_rooms(self):
        ledger = {"a": 2, "b": 0, "c": 0, "d": 0}
        self.assertEqual(rows_behind(EXAMPLE, ledger, "a", "b"), ([1], [0]))
        self.assertEqual(rows_behind(EXAMPLE, ledger, "c", "b"), ([0], [0]))
        self.assertEqual(rows_behind(EXAMPLE, ledger, "b", "a"), ([0, 1, 1], [1, 1, 0]))
        house = row_house(list("abcd"))
        self.assertEqual(rows_behind(house, {"a": 1, "b": 2, "c": 0, "d": 1}, "a", "b"), ([0, 0, 0], [0, 0, 0]))

    def test_the_whole_by_branches(self):
        # Each row behind b's door to a, between b's stays: what the ledger has is put together so.
        ledger = {"a": 3, "b": 4, "c": 0, "d": 0}
        visits, begun = rows_behind(EXAMPLE, ledger, "b", "a")
        self.assertEqual((visits, begun), ([0, 1, 2, 1], [1, 2, 1, 0]))
        self.assertEqual(count_carryings(EXAMPLE, ledger), 35)


class GreatCountsTest(Checks):
    def test_great_ones(self):
        for house in great_houses(10):
            ledger = great_ledger(house, 30)
            table = ends_table(house, ledger)
            self.assertEqual(sum(table.values()), count_carryings(house, ledger))
            self.assertTrue(all(table[(last, first)] == table[(first, last)] for first, last in table))
            self.assertEqual(own_reverses(house, ledger) % 2, count_carryings(house, ledger) % 2)
            first, last = list(table)[11]
            self.assertEqual(count_between(house, ledger, first, last), table[(first, last)])
            told = rows_behind(house, ledger, *house.doors()[3])
            self.assertEqual(len(told[0]), ledger[house.doors()[3][1]] + 1)

    def test_ten_lit_rooms_of_sixty(self):
        star = star_house([f"r{k}" for k in range(60)])
        ledger = {room: 0 for room in star.rooms()}
        ledger.update({f"r{k}": 2 for k in range(1, 10)}, r0=12)
        # 12 hours at the middle, nine leaves with two: counted by how often each leaf is come to.
        small = star_house([f"r{k}" for k in range(10)])
        self.assertEqual(count_carryings(star, ledger), count_carryings(small, {f"r{k}": ledger[f"r{k}"]
                                                                                 for k in range(10)}))
        self.assertEqual(len(ends_table(star, ledger)), 100)

    def test_known_numbers(self):
        row = row_house([f"r{k}" for k in range(10)])
        self.assertEqual(count_carryings(row, {room: 1 for room in row.rooms()}), 2)
        self.assertEqual(count_carryings(TWO_ROOMS, {"a": 15, "b": 15}), 155117520)
        star = star_house([f"r{k}" for k in range(10)])
        ledger = {room: 8 if room == "r0" else 1 for room in star.rooms()}
        self.assertEqual(count_carryings(star, ledger), factorial(9))
        self.assertEqual(own_reverses(SPIDER, {room: 2 for room in SPIDER.rooms()}), 0)
        self.assertEqual(own_reverses(TWO_ROOMS, {"a": 3, "b": 4}), 3)


if __name__ == "__main__":
    unittest.main()
