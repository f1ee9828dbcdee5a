"""[34] and [39]: leavings, and exchanges of them."""

import random
import unittest
from itertools import product

from lamplight.carryings import passes
from lamplight.errors import BadCarrying, BadLeavings, NoRoom
from lamplight.leavinglists import carried_by, exchange_distance, exchange_row, exchanges, leavings
from lamplight.ledgers import ledger_of
from tests.brute import (EXAMPLE, ONE_ROOM, TWO_ROOMS, any_objects, by_ledgers, carryings_of, five_room_houses,
                         great_houses, hours_row, random_ledgers, row_house, rows, small_houses, walk_between,
                         walks_to)
from tests.checks import Checks, no_rooms


def leavings_by_words(house, walk):
    return {room: [walk[k + 1] for k in range(len(walk) - 1) if walk[k] == room] for room in house.rooms()}


def exchanges_by_words(walk):
    """All carryings one exchange off, by trying all three hours."""
    told = set()
    for one, other, third in product(range(len(walk)), repeat=3):
        if one < other < third and walk[one] == walk[other] == walk[third]:
            first, second = walk[one + 1:other], walk[other + 1:third]
            if walk[one] not in first + second and first[:1] != second[:1]:
                told.add(walk[:one + 1] + second + (walk[one],) + first + walk[third:])
    return sorted(told)


def distances_from(walk):
    """A dict from all carryings to which exchanges lead to the least number of them."""
    told = {walk: 0}
    waiting = [walk]
    for ahead in waiting:
        for further in exchanges_by_words(ahead):
            if further not in told:
                told[further] = told[ahead] + 1
                waiting.append(further)
    return told


def turned(house, walk):
    """The carrying of the same passes that has all leavings the other way round but those that must come last."""
    lists = leavings_by_words(house, walk)
    for room in lists:
        kept = 0 if room == walk[-1] else 1
        many = len(lists[room]) - kept
        lists[room] = lists[room][:max(many, 0)][::-1] + lists[room][max(many, 0):]
    return carried_by(house, lists, walk[0])


def long_walk(house, start, hours):
    dice = random.Random(hours)
    walk = [start]
    while len(walk) < hours:
        walk.append(dice.choice(rows(house)[walk[-1]] + [walk[-1]]))
    return walk


class LeavingsTest(Checks):
    def test_example(self):
        told = leavings(EXAMPLE, ["a", "b", "c", "b", "d"])
        self.assertEqual(told, {"a": ["b"], "b": ["c", "d"], "c": ["b"], "d": []})
        self.assertEqual(carried_by(EXAMPLE, told, "a"), ["a", "b", "c", "b", "d"])

    def test_they_lead_back(self):
        for house in small_houses() + five_room_houses():
            for walk in walks_to(house, 5):
                told = leavings(house, list(walk))
                self.assertEqual(told, leavings_by_words(house, walk))
                self.assertEqual(list(told), house.rooms())
                self.assertEqual(carried_by(house, told, walk[0]), list(walk))

    def test_all_lists(self):
        # Lists of at most two entries in small houses: what is told is a carrying just if the document's rule holds.
        for house in [ONE_ROOM, TWO_ROOMS, row_house(list("bac"))]:
            near = {room: sorted(others + [room]) for room, others in rows(house).items()}
            short = {room: [list(row) for many in range(3) for row in product(near[room], repeat=many)] for room in near}
            for some in product(*short.values()):
                lists = dict(zip(short, some))
                for first in near:
                    told = carried_by(house, lists, first)
                    self.assertEqual(told is not None, any(self.rule(house, lists, first, last) for last in near))
                    if told is not None:
                        self.assertTrue(self.rule(house, lists, first, told[-1]))
                        self.assertEqual(leavings(house, told), lists)

    def rule(self, house, lists, first, last):
        entries = [entry for room in lists for entry in lists[room]]
        for room in lists:
            came = entries.count(room) + (room == first)
            if came != len(lists[room]) + (room == last):
                return False
            towards = walk_between(house, room, last)
            if room != last and lists[room] and lists[room][-1] != towards[1]:
                return False
        return True

    def test_other_entries_are_left(self):
        lists = {"a": ["b"], "b": ["a"], "c": [], "d": []}
        self.assertEqual(carried_by(EXAMPLE, lists, "a"), ["a", "b", "a"])
        self.assertIsNone(carried_by(EXAMPLE, {**lists, "d": ["b"]}, "a"))
        self.assertIsNone(carried_by(EXAMPLE, lists, "c"))
        self.assertEqual(carried_by(EXAMPLE, {**lists, "a": [], "b": []}, "c"), ["c"])
        self.assertEqual(carried_by(EXAMPLE, {**lists, "b": ("b", "a")}, "a"), ["a", "b", "b", "a"])

    def test_errors(self):
        for thing in any_objects():
            if not isinstance(thing, (list, tuple)) or len(thing) == 0:
                self.check_error(BadCarrying, {"index": 0}, leavings, EXAMPLE, thing)
            self.check_error(BadCarrying, {"index": 2}, leavings, EXAMPLE, ["a", "b", thing])
        self.check_error(BadCarrying, {"index": 1}, leavings, EXAMPLE, ["a", "c"])
        right = {"a": ["b"], "b": ["a"], "c": [], "d": []}
        wrong = any_objects() + [{**right, "e": []}, {"a": [], "b": [], "c": []}, {**right, "c": ["d"]}]
        wrong += [{"a": [], "b": [], "c": [], "e": []}, list("abcd")]
        for thing in any_objects():
            wrong.append({**right, "d": [thing]})
            if thing not in ([], ()):
                wrong.append({**right, "d": thing})
        self.check_things(BadLeavings, wrong, carried_by, EXAMPLE, None, "zz")
        self.check_things(NoRoom, no_rooms(), carried_by, EXAMPLE, right, None)

    def test_kept(self):
        self.check_kept(leavings, EXAMPLE, ["a", "b", "b", "c"])
        self.check_kept(carried_by, EXAMPLE, {"a": ["b"], "b": ["b", "c"], "c": [], "d": []}, "a")

    def test_great_ones(self):
        for house in great_houses(40):
            walk = long_walk(house, house.rooms()[3], 210)
            told = leavings(house, walk)
            self.assertEqual(told, leavings_by_words(house, walk))
            self.assertEqual(carried_by(house, told, walk[0]), walk)


class ExchangesTest(Checks):
    def test_example(self):
        self.assertEqual(exchanges(EXAMPLE, ["a", "b", "c", "b", "d"]), [])
        self.assertEqual(exchanges(EXAMPLE, ["a", "b", "b", "c", "b", "d"]), [["a", "b", "c", "b", "b", "d"]])
        self.assertEqual(exchanges(EXAMPLE, list("bcbab")), [list("babcb")])
        self.assertEqual(exchanges(EXAMPLE, list("bcbcb")), [])

    def test_all_that_are(self):
        for house in small_houses() + five_room_houses():
            for walk in walks_to(house, 6):
                told = exchanges(house, walk)
                self.assertEqual(told, [list(further) for further in exchanges_by_words(walk)])

    def check_row(self, house, one, other, far):
        self.assertEqual(exchange_distance(house, one, other), far)
        row = exchange_row(house, one, other)
        self.assertEqual(row is None, far is None)
        if row is not None:
            self.assertEqual((row[0], row[-1], len(row)), (list(one), list(other), far + 1))
            for ahead, further in zip(row, row[1:]):
                self.assertIn(tuple(further), exchanges_by_words(tuple(ahead)))

    def test_all_pairs(self):
        for house, most in [(house, 6) for house in small_houses()] + [(ONE_ROOM, 8), (TWO_ROOMS, 8)]:
            for there in by_ledgers(house, most).values():
                for one in there[:12]:
                    told = distances_from(one)
                    for other in there:
                        self.check_row(house, one, other, told.get(other))
                        self.assertEqual(other in told, passes(house, one) == passes(house, other)
                                         and one[0] == other[0])

    def test_greater_houses(self):
        for house, ledger in random_ledgers(6, 25, (4, 5, 6), 12):
            there = carryings_of(house, ledger)
            for one in there[:1] + there[len(there) // 2:][:1]:
                told = distances_from(one)
                for other in list(told)[::1 + len(told) // 20]:
                    self.check_row(house, one, other, told[other])

    def test_none(self):
        self.assertIsNone(exchange_distance(EXAMPLE, ["a"], ["b"]))
        self.assertIsNone(exchange_distance(EXAMPLE, ["a", "b"], ["b", "a"]))
        self.assertIsNone(exchange_row(EXAMPLE, ["a", "a"], ["a"]))
        self.assertIsNone(exchange_row(EXAMPLE, list("abab"), list("aabb")))
        self.assertEqual(exchange_row(EXAMPLE, ("a",), ["a"]), [["a"]])
        self.assertEqual(exchange_distance(EXAMPLE, ("a", "b"), ["a", "b"]), 0)

    def test_errors(self):
        for call in (exchange_distance, exchange_row):
            for thing in any_objects():
                self.check_error(BadCarrying, {"index": 2}, call, EXAMPLE, ["a", "b", thing], [None])
                self.check_error(BadCarrying, {"index": 1}, call, EXAMPLE, ["a", "b"], ("b", thing))
                if not isinstance(thing, (list, tuple)) or len(thing) == 0:
                    self.check_error(BadCarrying, {"index": 0}, call, EXAMPLE, thing, ["a", "c"])
                    self.check_error(BadCarrying, {"index": 0}, call, EXAMPLE, ["a"], thing)
                    self.check_error(BadCarrying, {"index": 0}, exchanges, EXAMPLE, thing)
                self.check_error(BadCarrying, {"index": 3}, exchanges, EXAMPLE, ["a", "b", "b", thing])
            self.check_error(BadCarrying, {"index": 1}, call, EXAMPLE, ["b", "b"], ["a", "c"])
        self.check_error(BadCarrying, {"index": 1}, exchanges, EXAMPLE, ["a", "d", "b"])

    def test_kept(self):
        one, other = list("abbcb"), list("abcbb")
        self.check_kept(exchanges, EXAMPLE, one)
        self.check_kept(exchange_distance, EXAMPLE, one, other)
        self.check_kept(exchange_row, EXAMPLE, one, other)
        self.check_kept(exchange_row, EXAMPLE, one, list(one))

    def test_great_ones(self):
        for house in great_houses(40):
            walk = long_walk(house, house.rooms()[3], 60)
            told = exchanges(house, walk)
            self.assertEqual(told, [list(further) for further in exchanges_by_words(tuple(walk))])
            walk = long_walk(house, house.rooms()[3], 210)
            other = turned(house, walk)
            self.assertEqual(ledger_of(house, other), ledger_of(house, walk))
            row = exchange_row(house, walk, other)
            self.assertEqual(len(row), exchange_distance(house, walk, other) + 1)
            self.assertEqual(len({tuple(each) for each in row}), len(row))
            self.assertEqual((row[0], row[-1]), (walk, other))
            for ahead, further in list(zip(row, row[1:]))[::40]:
                self.assertEqual(hours_row(house, ahead), hours_row(house, further))
                self.assertEqual(exchange_distance(house, ahead, further), 1)

    def test_a_long_row(self):
        walk = ["a"] * 100 + ["b", "a"] * 50 + ["b"] * 10
        other = turned(TWO_ROOMS, walk)
        # Of a's leavings all but the last one turn about, 99 waits and 50 more; of b's 9 waits behind 50.
        self.assertEqual(exchange_distance(TWO_ROOMS, walk, other), 99 * 50 + 9 * 50)
        self.assertEqual(len(exchange_row(TWO_ROOMS, walk, other)), 5401)


if __name__ == "__main__":
    unittest.main()
