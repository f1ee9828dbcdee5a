"""[77], and [83] on it: orders of first light that are begun."""

import unittest

from lamplight.begun import begins, gone_on, next_lit
from lamplight.errors import BadLedger, BadOrder, NotJoined
from lamplight.houses import beside
from lamplight.onelaw import holds
from lamplight.orders import is_order, order_fault
from tests.brute import (EXAMPLE, ONE_ROOM, SPIDER, TWO_ROOMS, any_objects, as_ledger, by_ledgers, carryings_of,
                         five_room_houses, great_houses, great_ledger, ledger_rows, row_house, rows, small_houses,
                         walk_between)
from tests.checks import Checks, wrong_ledgers
from tests.test_orders import lit_order, orders_with, wrong_orders

CALLS = (begins, gone_on, next_lit)
RIGHT = {"a": 1, "b": 2, "c": 0, "d": 3}
PARTED = {"a": 1, "b": 0, "c": 1, "d": 1}


def all_begun(house, lit):
    """All orders of some of the lit rooms, or of all."""
    told = {()}
    for whole in orders_with(house, lit):
        told |= {whole[:at] for at in range(1, len(whole) + 1)}
    return sorted(told - {()})


def begins_by_last(house, ledger, order):
    """What [77] says itself of an order that is begun: that for some last room the hours are enough."""
    lit = [room for room in house.rooms() if ledger[room]]
    needed = dict.fromkeys(lit, 0)
    for one, other in zip(order, order[1:]):
        for room in walk_between(house, one, other)[1:]:
            needed[room] += 1
    needed[order[0]] += 1
    return any(all(needed[room] + many <= ledger[room] for room, many in stays_to(house, lit, order, last).items())
               for last in lit)


def stays_to(house, lit, order, last):
    """The stays, less one at the order's last room, of the shortest carrying from there to last through the others."""
    here = order[-1]
    through = walk_between(house, here, last)
    doors = set()
    for room in [last] + [room for room in lit if room not in order]:
        rooms = walk_between(house, here, room)
        doors |= {tuple(sorted(pair)) for pair in zip(rooms, rooms[1:])}
    told = {room: 0 for room in lit}
    for door in doors:
        for room in door:
            told[room] += 1 if set(door) <= set(through) else 2
    for room in (here, last):
        told[room] += 1
    return {room: many // 2 - (1 if room == here else 0) for room, many in told.items()}


class BegunTest(Checks):
    def check_ledger(self, house, ledger, walks):
        lit = [room for room in house.rooms() if ledger[room]]
        whole = sorted({lit_order(walk) for walk in walks})
        there = {order[:at] for order in whole for at in range(len(order) + 1)}
        for order in all_begun(house, lit):
            self.assertIs(begins(house, ledger, list(order)), order in there, (house.doors(), ledger, order))
            first = min((row for row in whole if row[:len(order)] == order), default=None)
            told = gone_on(house, ledger, list(order))
            self.assertEqual(told, None if first is None else list(first))
            further = [room for room in lit if order + (room,) in there]
            self.assertEqual(next_lit(house, ledger, list(order)), further, (house.doors(), ledger, order))
        self.assertEqual(next_lit(house, ledger, []), sorted({order[0] for order in whole}))

    def test_all_ledgers(self):
        cases = [(house, 7) for house in small_houses()] + [(house, 6) for house in five_room_houses()]
        for house, most in cases:
            walks = by_ledgers(house, most)
            for row in ledger_rows(house, most):
                ledger = as_ledger(house, row)
                lit = [room for room in house.rooms() if ledger[room]]
                if all(set(walk_between(house, lit[0], room)) <= set(lit) for room in lit):
                    self.check_ledger(house, ledger, walks.get(row, []))

    def test_some_ledgers(self):
        five = five_room_houses()
        for house, hours in ((five[0], (2, 2, 2, 2, 1)), (five[1], (1, 1, 4, 1, 2)), (five[2], (1, 2, 3, 1, 2)),
                             (five[2], (1, 3, 2, 1, 1)), (SPIDER, (2, 1, 1, 1, 1, 1, 2))):
            ledger = as_ledger(house, hours)
            self.check_ledger(house, ledger, carryings_of(house, ledger))

    def test_by_its_rule(self):
        for house in (SPIDER, row_house(list("dbface"))):
            near = rows(house)
            for more in ([], ["c"], ["c", "d"], ["a1"], ["c", "c", "a2"]):
                ledger = {room: max(1, len(near[room]) - 1) + more.count(room) for room in near}
                for order in all_begun(house, house.rooms()):
                    self.assertEqual(begins(house, ledger, order), begins_by_last(house, ledger, order))

    def test_edges(self):
        ones = {"a": 1, "b": 2, "c": 1, "d": 1}
        self.assertEqual(next_lit(EXAMPLE, ones, []), ["a", "c", "d"])
        self.assertIs(begins(EXAMPLE, ones, ["b"]), False)
        self.assertIsNone(gone_on(EXAMPLE, ones, ["b", "a"]))
        self.assertEqual(next_lit(EXAMPLE, ones, ["b", "a"]), [])
        self.assertEqual(next_lit(EXAMPLE, ones, ["c", "b", "d", "a"]), [])
        self.assertEqual(gone_on(EXAMPLE, ones, ["c", "b", "d", "a"]), ["c", "b", "d", "a"])
        self.assertIs(begins(EXAMPLE, ones, ["c", "b", "d", "a"]), True)
        # No carrying has this ledger.
        self.assertEqual(next_lit(EXAMPLE, {**ones, "b": 1}, []), [])

    def test_few_rooms(self):
        self.assertEqual([call(ONE_ROOM, {"a": 3}, ["a"]) for call in CALLS], [True, ["a"], []])
        self.assertEqual(next_lit(ONE_ROOM, {"a": 3}, []), ["a"])
        self.assertEqual([call(TWO_ROOMS, {"a": 1, "b": 1}, ["b"]) for call in CALLS], [True, ["b", "a"], ["a"]])
        self.assertEqual(next_lit(TWO_ROOMS, {"a": 1, "b": 1}, []), ["a", "b"])
        self.assertEqual([call(TWO_ROOMS, {"a": 0, "b": 1}, ["b"]) for call in CALLS], [True, ["b"], []])
        self.assertEqual(next_lit(TWO_ROOMS, {"a": 0, "b": 1}, ()), ["b"])

    def test_errors(self):
        for call in CALLS:
            self.check_things(BadLedger, wrong_ledgers(RIGHT), call, EXAMPLE, None, None)
            self.check_error(NotJoined, {"room": "c"}, call, EXAMPLE, PARTED, None)
            for thing, index in wrong_orders(["a", "b", "d"]):
                if call != next_lit or thing not in ([], ()):
                    self.check_error(BadOrder, {"index": index}, call, EXAMPLE, RIGHT, thing)
            self.check_error(BadOrder, {"index": 2}, call, EXAMPLE, RIGHT, ["a", "b", "c", "d"])
            self.check_error(BadOrder, {"index": 1}, call, EXAMPLE, RIGHT, ("a", "d"))
        for call in (begins, gone_on):
            self.check_error(BadOrder, {"index": 0}, call, EXAMPLE, RIGHT, [])
        for thing in any_objects():
            if not isinstance(thing, (list, tuple)):
                self.check_error(BadOrder, {"index": 0}, next_lit, EXAMPLE, RIGHT, thing)

    def test_kept(self):
        for ledger in ({"d": 1, "b": 3, "a": 1, "c": 2}, {"d": 1, "b": 1, "a": 1, "c": 2}):
            for order in (["b"], ["c", "b"], ["a", "b", "d", "c"]):
                for call in CALLS:
                    self.check_kept(call, EXAMPLE, ledger, order)
            self.check_kept(next_lit, EXAMPLE, ledger, [])

    def test_great_ones(self):
        for house in great_houses(60):
            near = rows(house)
            ledger = great_ledger(house, 400)
            for hours in (ledger, {room: max(1, len(near[room]) - 1) + (room == house.rooms()[0]) for room in near}):
                firsts = next_lit(house, hours, [])
                self.assertEqual(bool(firsts), holds(house, hours))
                for first in firsts[:2]:
                    self.check_gone_on(house, hours, [first])
            whole = gone_on(house, ledger, [house.rooms()[7]])
            self.assertEqual(gone_on(house, ledger, whole[:20]), whole)
            self.assertIn(whole[20], next_lit(house, ledger, whole[:20]))

    def check_gone_on(self, house, ledger, order):
        self.assertIs(begins(house, ledger, order), True)
        whole = gone_on(house, ledger, order)
        self.assertIs(is_order(house, whole), True)
        self.assertIsNone(order_fault(house, ledger, whole))
        for at in range(1, 60, 13):
            # Nothing less goes on at any place.
            near = {far for room in whole[:at] for far in beside(house, room)} - set(whole[:at])
            for room in near:
                if room < whole[at]:
                    self.assertIs(begins(house, ledger, whole[:at] + [room]), False)


if __name__ == "__main__":
    unittest.main()
