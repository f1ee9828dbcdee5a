"""[72] to [76], and [83] on them: orders of first light, what they need, and last rooms."""

import random
import unittest
from itertools import groupby, permutations

from lamplight.carryings import is_carrying
from lamplight.errors import BadCarrying, BadLedger, BadOrder, NoRoom, NotJoined
from lamplight.orderends import carrying_to, ends_by_light, ends_of_order
from lamplight.orders import carrying_in_order, is_order, order_fault, order_needs, order_of, runs_behind
from tests.brute import (EXAMPLE, ONE_ROOM, SPIDER, TWO_ROOMS, any_objects, as_ledger, by_ledgers, five_room_houses,
                         great_houses, great_ledger, ledger_rows, row_house, rows, small_houses, star_house,
                         walk_between)
from tests.checks import Checks, no_rooms, wrong_ledgers

WITH_LEDGER = (order_fault, carrying_in_order, ends_of_order)
RIGHT = {"a": 1, "b": 2, "c": 0, "d": 3}
PARTED = {"a": 1, "b": 0, "c": 1, "d": 1}


def orders_with(house, some):
    """All orders of just some rooms."""
    near = rows(house)
    return [order for order in permutations(some)
            if all(any(far in near[room] for far in order[:at]) for at, room in enumerate(order) if at)]


def lit_order(walk):
    return tuple(dict.fromkeys(walk))


def runs_by_doors(house, order, room):
    behind = order[order.index(room) + 1:]
    return [list(run) for _, run in groupby(behind, lambda far: walk_between(house, room, far)[1])]


def wrong_orders(right):
    """Pairs of a thing that is no order and the index that tells of it, right being one of three rooms or more."""
    told = [(thing, 0) for thing in any_objects() if not isinstance(thing, (list, tuple)) or not thing]
    for thing in any_objects():
        told += [([thing], 0), (right[:2] + [thing], 2), ([right[0], thing, right[0]], 1)]
    return told + [(right[:2] + [right[0]], 2), (right + right, len(right)), ("ab", 0), ({"a": 1}, 0)]


def begun_order(house, start):
    """An order of all rooms of a house: outward from start, those furthest on first."""
    near = rows(house)
    order = []
    waiting = [start]
    while waiting:
        order.append(waiting.pop())
        waiting += [far for far in near[order[-1]] if far not in order and far not in waiting]
    return order


class OrdersTest(Checks):
    def test_example(self):
        order = ["a", "b", "c", "d"]
        self.assertEqual(runs_behind(EXAMPLE, order, "b"), [["c"], ["d"]])
        needs = order_needs(EXAMPLE, order)
        self.assertEqual((needs, list(needs)), ({"a": 1, "b": 2, "c": 1, "d": 1}, order))
        self.assertEqual(order_needs(EXAMPLE, ["b", "a", "c", "d"])["b"], 3)
        self.assertEqual(ends_of_order(EXAMPLE, {"a": 1, "b": 2, "c": 1, "d": 1}, order), ["d"])
        self.assertEqual(ends_of_order(EXAMPLE, {"a": 1, "b": 3, "c": 1, "d": 1}, order), ["b", "d"])

    def test_runs_and_needs(self):
        for house in small_houses() + five_room_houses():
            for many in range(1, len(house) + 1):
                for some in permutations(house.rooms(), many):
                    there = some in orders_with(house, sorted(some))
                    self.assertIs(is_order(house, list(some)), there)
                    if there:
                        self.check_needs(house, list(some))

    def check_needs(self, house, order):
        needs = order_needs(house, order)
        self.assertEqual(list(needs), sorted(order))
        for room in order:
            runs = runs_by_doors(house, order, room)
            self.assertEqual(runs_behind(house, order, room), runs)
            self.assertEqual(needs[room], max(1, len(runs)))
        doors = sum(len(walk_between(house, *pair)) - 1 for pair in zip(order, order[1:]))
        self.assertEqual(sum(needs.values()), doors + 1)

    def test_order_of(self):
        for house in (EXAMPLE, row_house(list("bac"))):
            for walk in [walk for walks in by_ledgers(house, 5).values() for walk in walks]:
                self.assertEqual(order_of(house, list(walk)), list(lit_order(walk)))

    def cases(self):
        told = [(house, 7) for house in small_houses()] + [(house, 6) for house in five_room_houses()]
        for house, most in told:
            walks = by_ledgers(house, most)
            for row in ledger_rows(house, most):
                lit = [room for room, hours in as_ledger(house, row).items() if hours]
                if all(set(walk_between(house, lit[0], room)) <= set(lit) for room in lit):
                    yield house, as_ledger(house, row), orders_with(house, lit), walks.get(row, [])

    def test_all_carryings(self):
        for house, ledger, orders, walks in self.cases():
            there = {}
            for walk in walks:
                there.setdefault(lit_order(walk), []).append(walk)
            for order in orders:
                self.check_order(house, ledger, list(order), there.get(order, []))
            lights = sorted({(walk[0], lit_order(walk)[-1]) for walk in walks})
            self.assertEqual(ends_by_light(house, ledger), lights, (house.doors(), ledger))

    def check_order(self, house, ledger, order, walks):
        fault = order_fault(house, ledger, order)
        self.assertEqual(fault is None, bool(walks), (house.doors(), ledger, order))
        told = carrying_in_order(house, ledger, order)
        if walks:
            self.assertIn(tuple(told), walks)
            self.assertIs(type(told), list)
        else:
            self.assertIsNone(told)
            needs = order_needs(house, order)
            short = [(room, ledger[room], needs[room]) for room in sorted(order) if ledger[room] < needs[room]]
            self.assertEqual(fault, short[0])
        lasts = sorted({walk[-1] for walk in walks})
        self.assertEqual(ends_of_order(house, ledger, order), lasts, (house.doors(), ledger, order))
        for last in house.rooms():
            told = carrying_to(house, ledger, order, last)
            if last in lasts:
                self.assertIn(tuple(told), walks)
                self.assertEqual((type(told), told[-1]), (list, last))
            else:
                self.assertIsNone(told)

    def test_is_order(self):
        for thing, _ in wrong_orders(["a", "b", "d"]):
            self.assertIs(is_order(EXAMPLE, thing), False)
        for right in (["c"], ("b", "a"), ["d", "b", "c"], ["b", "d", "c", "a"]):
            self.assertIs(is_order(EXAMPLE, right), True)
        for wrong in (["a", "c"], ["c", "d", "b"], ["a", "b", "a"], [["a"], "b"]):
            self.assertIs(is_order(EXAMPLE, wrong), False)

    def test_few_rooms(self):
        self.assertEqual([is_order(ONE_ROOM, ["a"]), runs_behind(ONE_ROOM, ["a"], "a"), order_needs(ONE_ROOM, ["a"])],
                         [True, [], {"a": 1}])
        self.assertEqual([call(ONE_ROOM, {"a": 3}, ["a"]) for call in WITH_LEDGER], [None, ["a", "a", "a"], ["a"]])
        self.assertEqual(carrying_to(ONE_ROOM, {"a": 3}, ["a"], "a"), ["a", "a", "a"])
        self.assertEqual(ends_by_light(ONE_ROOM, {"a": 3}), [("a", "a")])
        self.assertEqual(ends_by_light(TWO_ROOMS, {"a": 0, "b": 1}), [("b", "b")])
        self.assertEqual(ends_by_light(TWO_ROOMS, {"a": 1, "b": 1}), [("a", "b"), ("b", "a")])
        self.assertEqual([call(TWO_ROOMS, {"a": 2, "b": 1}, ["a", "b"]) for call in WITH_LEDGER],
                         [None, ["a", "a", "b"], ["a", "b"]])
        self.assertEqual(ends_of_order(TWO_ROOMS, {"a": 2, "b": 1}, ["b", "a"]), ["a"])
        self.assertEqual(ends_of_order(TWO_ROOMS, {"a": 0, "b": 1}, ["b"]), ["b"])
        self.assertIsNone(carrying_to(TWO_ROOMS, {"a": 0, "b": 1}, ["b"], "a"))

    def test_errors_without_a_ledger(self):
        for thing, index in wrong_orders(["a", "b", "d"]):
            self.check_error(BadOrder, {"index": index}, order_needs, EXAMPLE, thing)
            self.check_error(BadOrder, {"index": index}, runs_behind, EXAMPLE, thing, None)
        self.check_error(BadOrder, {"index": 1}, order_needs, EXAMPLE, ["a", "c", "b"])
        self.check_error(BadOrder, {"index": 2}, order_needs, EXAMPLE, ["a", "b", "a"])
        self.check_things(NoRoom, no_rooms() + ["c"], runs_behind, EXAMPLE, ["d", "b", "a"], None)
        for thing in [[], None, "a"]:
            self.check_error(BadCarrying, {"index": 0}, order_of, EXAMPLE, thing)
        self.check_error(BadCarrying, {"index": 2}, order_of, EXAMPLE, ["a", "b", "zz", "a"])
        self.check_error(BadCarrying, {"index": 1}, order_of, EXAMPLE, ["a", "c"])

    def test_errors_with_a_ledger(self):
        for call in WITH_LEDGER + (lambda house, ledger, order: carrying_to(house, ledger, order, None),):
            for thing in wrong_ledgers(RIGHT):
                self.check_error(BadLedger, {"thing": thing}, call, EXAMPLE, thing, None)
            self.check_error(NotJoined, {"room": "c"}, call, EXAMPLE, PARTED, None)
            for thing, index in wrong_orders(["a", "b", "d"]):
                self.check_error(BadOrder, {"index": index}, call, EXAMPLE, RIGHT, thing)
            # A dark room is none; rooms that are left out are missed where the order is at its end.
            self.check_error(BadOrder, {"index": 2}, call, EXAMPLE, RIGHT, ["a", "b", "c", "d"])
            self.check_error(BadOrder, {"index": 2}, call, EXAMPLE, RIGHT, ["a", "b"])
            self.check_error(BadOrder, {"index": 1}, call, EXAMPLE, RIGHT, ("d",))
        self.check_things(BadLedger, wrong_ledgers(RIGHT), ends_by_light, EXAMPLE, None)
        self.check_error(NotJoined, {"room": "c"}, ends_by_light, EXAMPLE, PARTED)
        self.check_things(NoRoom, no_rooms(), carrying_to, EXAMPLE, RIGHT, ["a", "b", "d"], None)
        self.assertIsNone(carrying_to(EXAMPLE, RIGHT, ["a", "b", "d"], "c"))

    def test_kept(self):
        ledger = {"d": 1, "b": 3, "a": 1, "c": 2}
        order = ["c", "b", "a", "d"]
        self.check_kept(is_order, EXAMPLE, order)
        self.check_kept(order_of, EXAMPLE, ["a", "b", "b", "d"])
        self.check_kept(runs_behind, EXAMPLE, order, "b")
        self.check_kept(order_needs, EXAMPLE, order)
        for hours in (ledger, {**ledger, "b": 1}):
            for call in WITH_LEDGER:
                self.check_kept(call, EXAMPLE, hours, order)
            self.check_kept(carrying_to, EXAMPLE, hours, order, "b")
            self.check_kept(ends_by_light, EXAMPLE, hours)

    def test_great_ones(self):
        dice = random.Random(72)
        for house in great_houses(60):
            names = house.rooms()
            ledger = great_ledger(house, 400)
            order = begun_order(house, dice.choice(names))
            self.assertIs(is_order(house, order), True)
            needs = order_needs(house, order)
            self.assertEqual(len(runs_behind(house, order, order[0])), max(needs[order[0]], 0))
            fault = order_fault(house, ledger, order)
            self.assertEqual(fault is None, all(ledger[room] >= needs[room] for room in names))
            more = {room: needs[room] + 1 for room in names}
            lasts = ends_of_order(house, more, order)
            self.assertEqual(lasts, names)
            for told in (carrying_in_order(house, more, order), carrying_to(house, more, order, names[17])):
                self.assertTrue(is_carrying(house, told))
                self.assertEqual([told.count(room) for room in names], list(more.values()))
                self.assertEqual(order_of(house, told), order)
            self.assertEqual(told[-1], names[17])
            self.assertTrue(ends_by_light(house, ledger))

    def test_order_of_many_runs(self):
        star = star_house([f"r{k}" for k in range(60)])
        needs = order_needs(star, star.rooms())
        self.assertEqual((needs["r0"], sum(needs.values())), (59, 118))
        self.assertEqual(order_fault(star, {room: 1 for room in needs}, star.rooms()), ("r0", 1, 59))
        order = ["c", "a1", "a2", "b1", "b2", "a3", "b3"]
        self.assertEqual(runs_behind(SPIDER, order, "c"), [["a1"], ["a2"], ["b1"], ["b2"], ["a3", "b3"]])
        self.assertEqual(runs_behind(SPIDER, order, "a1"), [["a2"], ["b1"], ["b2", "a3", "b3"]])


if __name__ == "__main__":
    unittest.main()
