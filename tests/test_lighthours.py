"""[79], [81], and [83] on them: hours of first light, and of last light."""

import unittest
from itertools import permutations

from lamplight.carryings import first_lit, is_carrying
from lamplight.errors import BadCarrying, BadHours, BadLedger, NotJoined
from lamplight.houses import beside
from lamplight.lighthours import carrying_by_hours, carrying_with, hours_fault, last_lit
from lamplight.orders import is_order
from tests.brute import (EXAMPLE, ONE_ROOM, TWO_ROOMS, any_objects, as_ledger, by_ledgers, five_room_houses,
                         great_houses, ledger_rows, row_house, rows, small_houses, star_house, walk_between, walks_to)
from tests.checks import Checks, wrong_ledgers
from tests.test_orders import begun_order

RIGHT = {"a": 1, "b": 2, "c": 0, "d": 3}
PARTED = {"a": 1, "b": 0, "c": 1, "d": 1}
HOURS = {"a": 0, "b": 1, "d": 4}


def lit_hours(walk):
    return {room: walk.index(room) for room in dict.fromkeys(walk)}


def all_hours(house, most):
    """All HOURS of first light of at most so much, of rooms that need not be beside one another."""
    return [dict(zip(some, (0,) + rest)) for many in range(1, len(house) + 1)
            for some in permutations(house.rooms(), many)
            for rest in permutations(range(1, most + 1), many - 1)]


def fault_of(house, hours):
    order = sorted(hours, key=hours.get)
    for at, room in enumerate(order):
        if at and not set(order[:at]) & set(rows(house)[room]):
            return ("alone", room)
    for one, other in zip(order, order[1:]):
        if len(walk_between(house, one, other)) - 1 > hours[other] - hours[one]:
            return ("soon", one, other)
    return None


def wrong_hours():
    told = any_objects() + [{}, {"a": 1}, {"a": 0, "b": 0}, {"a": 0, "b": 3, "c": 3}, {"a": 0, "zz": 1}, {"zz": 0}]
    told += [{"a": 0, "b": thing} for thing in (None, True, -1, "1", [1], (1,))]
    return told + [{"a": False, "b": 1}, {"a": False}, [("a", 0)], {0: 0}, {None: 0}, {("a",): 0}]


class LightHoursTest(Checks):
    def test_example(self):
        hours = {"a": 0, "b": 1, "c": 2, "d": 3}
        self.assertEqual(hours_fault(EXAMPLE, hours), ("soon", "c", "d"))
        self.assertIsNone(hours_fault(EXAMPLE, {**hours, "d": 4}))
        self.assertEqual(carrying_by_hours(EXAMPLE, {**hours, "d": 4}), ["a", "b", "c", "b", "d"])

    def test_last_lit(self):
        for house in small_houses():
            for walk in walks_to(house, 5):
                told = last_lit(house, list(walk))
                lasts = {room: len(walk) - 1 - walk[::-1].index(room) for room in dict.fromkeys(walk[::-1])}
                self.assertEqual(list(told.items()), list(reversed(list(lasts.items()))))
                # Turned about, they are as they are first lit.
                self.assertEqual(list(told)[::-1], list(first_lit(house, list(walk[::-1]))))

    def test_hours(self):
        for house in small_houses():
            least = {}
            for walk in walks_to(house, 6):
                least.setdefault(tuple(lit_hours(walk).items()), walk)
            for hours in all_hours(house, 5 if len(house) < 4 else 4):
                fault = hours_fault(house, hours)
                self.assertEqual(fault, fault_of(house, hours), (house.doors(), hours))
                walk = least.get(tuple(sorted(hours.items(), key=lambda item: item[1])))
                self.assertEqual(fault is None, walk is not None)
                told = carrying_by_hours(house, hours)
                if walk is None:
                    self.assertIsNone(told)
                else:
                    self.assertTrue(is_carrying(house, told))
                    self.assertEqual((type(told), lit_hours(told), len(told)), (list, hours, len(walk)))

    def test_hours_with_ledgers(self):
        cases = [(house, 6) for house in small_houses()] + [(house, 6) for house in five_room_houses()]
        for house, most in cases:
            walks = by_ledgers(house, most)
            hours_told = {}
            for row in walks:
                for walk in walks[row]:
                    hours_told.setdefault(row, {})[tuple(lit_hours(walk).items())] = True
            alike = {hours for some in hours_told.values() for hours in list(some)[:12]}
            for row in ledger_rows(house, most)[::1 if len(house) < 4 else 3]:
                self.check_ledger(house, as_ledger(house, row), hours_told.get(row, {}), alike)

    def check_ledger(self, house, ledger, there, others):
        lit = [room for room in house.rooms() if ledger[room]]
        if not all(set(walk_between(house, lit[0], room)) <= set(lit) for room in lit):
            return
        for hours in [*there, *sorted(others)[::len(others) // 12 + 1]]:
            told = carrying_with(house, ledger, dict(hours))
            if hours in there:
                self.assertTrue(is_carrying(house, told))
                self.assertEqual((type(told), lit_hours(told)), (list, dict(hours)))
                self.assertEqual({room: told.count(room) for room in house.rooms()}, ledger)
            else:
                self.assertIsNone(told, (house.doors(), ledger, hours))

    def test_edges(self):
        self.assertEqual(hours_fault(EXAMPLE, {"a": 0, "c": 1, "d": 7}), ("alone", "c"))
        self.assertEqual(hours_fault(EXAMPLE, {"d": 2, "c": 1, "b": 5, "a": 0}), ("alone", "c"))
        self.assertEqual(hours_fault(EXAMPLE, {"d": 9, "c": 2, "b": 1, "a": 0}), None)
        self.assertEqual(carrying_by_hours(EXAMPLE, {"d": 7, "c": 2, "b": 1, "a": 0})[-2:], ["b", "d"])
        ones = {"a": 1, "b": 2, "c": 1, "d": 1}
        right = {"a": 0, "b": 1, "c": 2, "d": 4}
        self.assertEqual(carrying_with(EXAMPLE, ones, right), ["a", "b", "c", "b", "d"])
        # A lit room that the hours have not, a dark one that they have, hours behind all.
        self.assertIsNone(carrying_with(EXAMPLE, {"a": 1, "b": 2, "c": 1, "d": 1}, {"a": 0, "b": 1, "c": 2}))
        self.assertIsNone(carrying_with(EXAMPLE, {"a": 1, "b": 1, "c": 1, "d": 0}, right))
        self.assertIsNone(carrying_with(EXAMPLE, ones, {**right, "d": 5}))
        self.assertIsNone(carrying_with(EXAMPLE, ones, {**right, "d": 400}))

    def test_few_rooms(self):
        self.assertEqual(last_lit(ONE_ROOM, ["a", "a"]), {"a": 1})
        self.assertIsNone(hours_fault(ONE_ROOM, {"a": 0}))
        self.assertEqual(carrying_by_hours(ONE_ROOM, {"a": 0}), ["a"])
        self.assertEqual(carrying_with(ONE_ROOM, {"a": 3}, {"a": 0}), ["a", "a", "a"])
        self.assertEqual(carrying_by_hours(TWO_ROOMS, {"a": 2, "b": 0}), ["b", "b", "a"])
        self.assertEqual(carrying_by_hours(TWO_ROOMS, {"b": 0}), ["b"])
        self.assertEqual(carrying_with(TWO_ROOMS, {"a": 1, "b": 3}, {"a": 1, "b": 0}), ["b", "a", "b", "b"])
        self.assertEqual(carrying_with(TWO_ROOMS, {"a": 0, "b": 2}, {"b": 0}), ["b", "b"])

    def test_errors(self):
        for thing in [[], None, "a", {"a": 0}]:
            self.check_error(BadCarrying, {"index": 0}, last_lit, EXAMPLE, thing)
        self.check_error(BadCarrying, {"index": 1}, last_lit, EXAMPLE, ["a", "c"])
        for call in (hours_fault, carrying_by_hours):
            self.check_things(BadHours, wrong_hours(), call, EXAMPLE, None)
        self.check_things(BadLedger, wrong_ledgers(RIGHT), carrying_with, EXAMPLE, None, None)
        self.check_error(NotJoined, {"room": "c"}, carrying_with, EXAMPLE, PARTED, None)
        self.check_things(BadHours, wrong_hours(), carrying_with, EXAMPLE, RIGHT, None)

    def test_kept(self):
        self.check_kept(last_lit, EXAMPLE, ["a", "b", "b", "a", "b", "d"])
        for hours in ({"d": 4, "b": 1, "a": 0}, {"d": 2, "c": 1, "b": 0}, {"a": 0, "c": 1}):
            self.check_kept(hours_fault, EXAMPLE, hours)
            self.check_kept(carrying_by_hours, EXAMPLE, hours)
        self.check_kept(carrying_with, EXAMPLE, {"d": 2, "c": 0, "b": 4, "a": 3}, {"d": 4, "b": 1, "a": 0})
        self.check_kept(carrying_with, EXAMPLE, {"d": 2, "c": 0, "b": 1, "a": 1}, {"d": 4, "b": 1, "a": 0})

    def test_great_ones(self):
        for house in great_houses(60):
            order = begun_order(house, house.rooms()[3])
            self.assertTrue(is_order(house, order))
            hours = {order[0]: 0}
            for one, other in zip(order, order[1:]):
                hours[other] = hours[one] + len(walk_between(house, one, other)) - 1
            more = (400 - max(hours.values())) // 60
            later = {room: hour + more * at for at, (room, hour) in enumerate(hours.items())}
            for given in (hours, later):
                if max(given.values()) <= 400:
                    self.assertIsNone(hours_fault(house, given))
                    told = carrying_by_hours(house, given)
                    self.assertEqual((lit_hours(told), len(told)), (given, max(given.values()) + 1))
            sooner = {**hours, order[-1]: hours[order[-2]]}
            self.assertIn(hours_fault(house, {**sooner, order[-2]: hours[order[-2]] + 1})[0], ("soon", "alone"))
        for house in five_room_houses() + [row_house(list("abcde")), star_house(list("cabde"))]:
            walk = self.walk_of(house)
            ledger = {room: walk.count(room) for room in house.rooms()}
            hours = lit_hours(walk)
            self.assertEqual(lit_hours(carrying_with(house, ledger, hours)), hours)
            self.assertIsNone(carrying_with(house, ledger, {**hours, list(hours)[-1]: 99}))

    def walk_of(self, house):
        """A row of twelve hours that lights all rooms of a house of five."""
        order = begun_order(house, house.rooms()[0])
        walk = [order[0]]
        for room in order[1:]:
            walk += walk_between(house, walk[-1], room)[1:]
        while len(walk) < 12:
            walk.append(beside(house, walk[-1])[0] if len(walk) % 3 else walk[-1])
        return walk


if __name__ == "__main__":
    unittest.main()
