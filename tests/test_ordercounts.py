"""[78], [80], and [83] on them: orders of first light listed, counted, numbered, and who is lit ahead of whom."""

import random
import unittest
from math import factorial

from lamplight.errors import BadLedger, BadOrder, NoRoom, NoSuch, NotJoined
from lamplight.houses import House
from lamplight.ordercounts import count_all, count_orders, lit_ahead, order_number, order_numbered, orders_of
from lamplight.orders import order_fault
from tests.brute import (EXAMPLE, ONE_ROOM, SPIDER, TWO_ROOMS, as_ledger, by_ledgers, carryings_of, five_room_houses,
                         great_houses, great_ledger, ledger_rows, random_house, row_house, rows, small_houses,
                         star_house, walk_between)
from tests.checks import Checks, no_numbers, no_rooms, wrong_ledgers
from tests.test_orders import lit_order, orders_with, wrong_orders

CALLS = (orders_of, count_orders)
RIGHT = {"a": 1, "b": 2, "c": 0, "d": 3}
PARTED = {"a": 1, "b": 0, "c": 1, "d": 1}
ONES = {"a": 1, "b": 2, "c": 1, "d": 1}


class OrderCountsTest(Checks):
    def test_example(self):
        self.assertEqual(count_orders(EXAMPLE, ONES), 6)
        self.assertEqual(orders_of(EXAMPLE, ONES)[0], ["a", "b", "c", "d"])
        self.assertEqual(count_orders(EXAMPLE, {**ONES, "b": 3}), 12)
        self.assertEqual(count_all(EXAMPLE), 12)

    def check_ledger(self, house, ledger, orders):
        self.assertEqual(orders_of(house, ledger), orders, (house.doors(), ledger))
        self.assertEqual(count_orders(house, ledger), len(orders), (house.doors(), ledger))
        for number, order in enumerate(orders):
            self.assertEqual(order_numbered(house, ledger, number), order)
            self.assertEqual(order_number(house, ledger, order), number)
        self.check_error(NoSuch, {"thing": len(orders)}, order_numbered, house, ledger, len(orders))
        lit = [room for room in house.rooms() if ledger[room]]
        for room in lit:
            for other in lit:
                ahead = [order.index(room) < order.index(other) for order in orders]
                word = "always" if all(ahead) else "sometimes" if any(ahead) else "never"
                told = lit_ahead(house, ledger, room, other)
                self.assertEqual(told, word if orders and room != other else None)

    def test_all_ledgers(self):
        cases = [(house, 7) for house in small_houses()] + [(house, 6) for house in five_room_houses()]
        for house, most in cases:
            walks = by_ledgers(house, most)
            for row in ledger_rows(house, most):
                ledger = as_ledger(house, row)
                lit = [room for room in house.rooms() if ledger[room]]
                if all(set(walk_between(house, lit[0], room)) <= set(lit) for room in lit):
                    orders = sorted({lit_order(walk) for walk in walks.get(row, [])})
                    self.check_ledger(house, ledger, [list(order) for order in orders])
                    for order in orders_with(house, lit):
                        if order not in orders:
                            self.assertIsNone(order_number(house, ledger, order))

    def test_counts_of_more_rooms(self):
        dice = random.Random(78)
        for seed in range(60):
            house = random_house(list("gfedcba"[:dice.choice((6, 7))]), seed)
            near = rows(house)
            ledger = {room: max(1, len(near[room]) - 1 + dice.choice((0, 0, 1, 2, 3))) for room in near}
            orders = [order for order in orders_with(house, house.rooms()) if order_fault(house, ledger, order) is None]
            self.assertEqual(orders_of(house, ledger), [list(order) for order in orders])
            self.assertEqual(count_orders(house, ledger), len(orders), (house.doors(), ledger))

    def test_count_all(self):
        for house in small_houses() + five_room_houses() + [SPIDER, random_house(list("gfedcba"), 5)]:
            orders = orders_with(house, house.rooms())
            self.assertEqual(count_all(house), len(orders))
            self.assertEqual(count_orders(house, {room: 9 for room in house.rooms()}), len(orders))

    def test_ahead(self):
        row = row_house(list("abc"))
        self.assertEqual(lit_ahead(row, {"a": 1, "b": 1, "c": 1}, "a", "b"), "sometimes")
        self.assertEqual(lit_ahead(row, {"a": 1, "b": 1, "c": 1}, "a", "c"), "sometimes")
        # The short rooms b and d are gone through once: first and last rooms are beyond them, and x is behind m.
        house = House(list("abmdex"), [("a", "b"), ("b", "m"), ("m", "d"), ("d", "e"), ("m", "x")])
        ledger = {**{room: 1 for room in house.rooms()}, "m": 3}
        self.assertEqual(lit_ahead(house, ledger, "m", "x"), "always")
        self.assertEqual(lit_ahead(house, ledger, "x", "m"), "never")
        self.assertEqual(lit_ahead(house, ledger, "x", "d"), "sometimes")
        orders = sorted({lit_order(walk) for walk in carryings_of(house, ledger)})
        self.check_ledger(house, ledger, [list(order) for order in orders])
        self.assertEqual(lit_ahead(row, {"a": 2, "b": 1, "c": 0}, "a", "b"), "sometimes")

    def test_few_rooms(self):
        self.assertEqual([call(ONE_ROOM, {"a": 3}) for call in CALLS], [[["a"]], 1])
        self.assertEqual((count_all(ONE_ROOM), count_all(TWO_ROOMS)), (1, 2))
        self.assertEqual((order_numbered(ONE_ROOM, {"a": 3}, 0), order_number(ONE_ROOM, {"a": 3}, ["a"])), (["a"], 0))
        self.assertIsNone(lit_ahead(ONE_ROOM, {"a": 3}, "a", "a"))
        self.assertEqual(orders_of(TWO_ROOMS, {"a": 1, "b": 1}), [["a", "b"], ["b", "a"]])
        self.assertEqual(orders_of(TWO_ROOMS, {"a": 0, "b": 1}), [["b"]])
        self.assertEqual(lit_ahead(TWO_ROOMS, {"a": 1, "b": 1}, "a", "b"), "sometimes")

    def test_errors(self):
        for call in CALLS:
            self.check_things(BadLedger, wrong_ledgers(RIGHT), call, EXAMPLE, None)
            self.check_error(NotJoined, {"room": "c"}, call, EXAMPLE, PARTED)
        for call in (order_numbered, order_number):
            self.check_things(BadLedger, wrong_ledgers(RIGHT), call, EXAMPLE, None, None)
            self.check_error(NotJoined, {"room": "c"}, call, EXAMPLE, PARTED, None)
        for thing in no_numbers(0) + [6, 10 ** 12]:
            self.check_error(NoSuch, {"thing": thing}, order_numbered, EXAMPLE, ONES, thing)
        self.check_error(NoSuch, {"thing": 0}, order_numbered, EXAMPLE, {**ONES, "b": 1}, 0)
        for thing, index in wrong_orders(["a", "b", "d"]):
            self.check_error(BadOrder, {"index": index}, order_number, EXAMPLE, RIGHT, thing)
        self.check_error(BadOrder, {"index": 2}, order_number, EXAMPLE, RIGHT, ["a", "b", "c", "d"])
        self.check_error(BadOrder, {"index": 2}, order_number, EXAMPLE, RIGHT, ["a", "b"])
        self.assertIsNone(order_number(EXAMPLE, ONES, ["b", "a", "c", "d"]))

    def test_errors_of_ahead(self):
        self.check_things(BadLedger, wrong_ledgers(RIGHT), lit_ahead, EXAMPLE, None, None, None)
        self.check_error(NotJoined, {"room": "c"}, lit_ahead, EXAMPLE, PARTED, None, None)
        for thing in no_rooms() + ["c"]:
            self.check_error(NoRoom, {"thing": thing}, lit_ahead, EXAMPLE, RIGHT, thing, 5)
            self.check_error(NoRoom, {"thing": thing}, lit_ahead, EXAMPLE, RIGHT, "a", thing)
        self.check_error(NoRoom, {"thing": "c"}, lit_ahead, EXAMPLE, {**RIGHT, "b": 1, "d": 0}, "c", "c")
        star = star_house(list("mabcd"))
        self.assertIsNone(lit_ahead(star, {room: 1 for room in star.rooms()}, "a", "b"))

    def test_kept(self):
        for ledger in ({"d": 1, "b": 3, "a": 1, "c": 2}, {"d": 1, "b": 2, "a": 0, "c": 2}):
            for call in CALLS:
                self.check_kept(call, EXAMPLE, ledger)
            self.check_kept(order_numbered, EXAMPLE, ledger, 1)
            self.check_kept(lit_ahead, EXAMPLE, ledger, "b", "c")
        self.check_kept(order_number, EXAMPLE, {"d": 1, "b": 3, "a": 1, "c": 2}, ["c", "b", "a", "d"])

    def test_great_ones(self):
        names = [f"r{k}" for k in range(8)]
        for house in (row_house(names), star_house(names), random_house(names, 3)):
            ledger = {room: 40 for room in names}
            orders = orders_of(house, ledger)
            self.assertEqual(len(orders), count_all(house))
            self.assertEqual(orders, sorted(orders))
            self.assertEqual(order_numbered(house, ledger, len(orders) - 1), orders[-1])
            self.assertEqual(order_number(house, ledger, orders[-1]), len(orders) - 1)
            self.assertEqual(lit_ahead(house, ledger, "r0", "r7"), "sometimes")
        twelve = [f"r{k}" for k in range(12)]
        for house in (row_house(twelve), star_house(twelve), random_house(twelve, 4), random_house(twelve, 5)):
            self.assertEqual(count_orders(house, {room: 30 for room in twelve}), count_all(house))
            self.assertLessEqual(count_orders(house, great_ledger(house, 30)), count_all(house))
        # Of its leaves one is lit first, or the middle: in ten runs at most it comes to all but one of the others.
        self.assertEqual(count_orders(star_house(twelve), {room: 10 if room == "r0" else 1 for room in twelve}),
                         factorial(11))
        self.assertEqual(count_orders(star_house(twelve), {room: 11 if room == "r0" else 1 for room in twelve}),
                         2 * factorial(11))
        for house in great_houses(60):
            self.assertGreaterEqual(count_all(house), 2 ** 59)
        self.assertEqual(count_all(row_house([f"r{k}" for k in range(60)])), 2 ** 59)
        self.assertEqual(count_all(star_house([f"r{k}" for k in range(60)])), 2 * factorial(59))


if __name__ == "__main__":
    unittest.main()
