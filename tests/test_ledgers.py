"""[10]: ledgers."""

import unittest
from itertools import product

from lamplight.errors import BadCarrying, BadLedger, NotJoined
from lamplight.houses import House
from lamplight.ledgers import is_ledger, ledger_of, lit_house, lit_parts, lit_rooms
from tests.brute import (EXAMPLE, ONE_ROOM, SPIDER, any_objects, as_ledger, great_houses, small_houses, walk_between,
                         walks_to)


def dark_kinds(house):
    """Ledgers of a house with hours of 0 and 1 in all ways."""
    return [as_ledger(house, row) for row in product((0, 1), repeat=len(house)) if any(row)]


def parts_of(house, ledger):
    lit = [room for room in house.rooms() if ledger[room]]
    joined = {r: [o for o in lit if all(ledger[x] for x in walk_between(house, r, o))] for r in lit}
    return sorted({tuple(part) for part in joined.values()})


class LedgersTest(unittest.TestCase):
    def test_example(self):
        told = ledger_of(EXAMPLE, ["a", "b", "b", "c", "b", "d"])
        self.assertEqual(list(told.items()), [("a", 1), ("b", 3), ("c", 1), ("d", 1)])
        self.assertTrue(is_ledger(EXAMPLE, told))

    def test_ledger_of_all(self):
        for house in small_houses():
            for walk in walks_to(house, 5):
                told = ledger_of(house, walk)
                self.assertEqual(list(told.items()), [(room, walk.count(room)) for room in house.rooms()])

    def test_ledger_of_bad_carryings(self):
        for carrying, index in ((None, 0), ([], 0), (["a", "c"], 1), (["a", "b", 3], 2), ("ab", 0)):
            with self.assertRaises(BadCarrying) as caught:
                ledger_of(EXAMPLE, carrying)
            self.assertEqual(caught.exception.index, index)

    def test_is_ledger(self):
        self.assertIs(is_ledger(EXAMPLE, {"d": 0, "b": 0, "c": 1, "a": 0}), True)
        self.assertIs(is_ledger(EXAMPLE, {"d": 10 ** 9, "b": 400, "c": 0, "a": 3}), True)
        self.assertIs(is_ledger(ONE_ROOM, {"a": 1}), True)
        right = {"a": 1, "b": 2, "c": 1, "d": 1}
        wrong = any_objects() + [
            {}, {"a": 0, "b": 0, "c": 0, "d": 0}, {"a": 1, "b": 1, "c": 1}, {**right, "e": 0}, {**right, 1: 1},
            {"a": 1, "b": 1, "c": 1, "x": 1}, {("a",): 1, "b": 1, "c": 1, "d": 1}, list(right.items()), [1, 2, 1, 1]]
        wrong += [{**right, "b": thing} for thing in any_objects() if thing not in (0, 1, 7, 10 ** 20)]
        wrong += [{**right, "b": thing} for thing in (True, False, -1, -5)]
        for thing in wrong:
            self.assertIs(is_ledger(EXAMPLE, thing), False)
            for call in (lit_rooms, lit_parts, lit_house):
                with self.assertRaises(BadLedger) as caught:
                    call(EXAMPLE, thing)
                self.assertIs(caught.exception.thing, thing)
        self.assertIs(is_ledger(ONE_ROOM, {"a": 0}), False)

    def test_lit(self):
        for house in small_houses() + [SPIDER]:
            for ledger in dark_kinds(house):
                turned = dict(reversed(list(ledger.items())))
                lit = [room for room in house.rooms() if ledger[room]]
                self.assertEqual(lit_rooms(house, turned), lit)
                parts = [list(part) for part in parts_of(house, ledger)]
                self.assertEqual(lit_parts(house, turned), parts)
                if len(parts) == 1:
                    doors = [door for door in house.doors() if ledger[door[0]] and ledger[door[1]]]
                    self.assertEqual(lit_house(house, turned), House(lit, doors))
                else:
                    with self.assertRaises(NotJoined) as caught:
                        lit_house(house, turned)
                    self.assertEqual(caught.exception.room, min(set(lit) - set(parts[0])))

    def test_told_things_are_new_and_passed_ones_stay(self):
        ledger = {"d": 2, "a": 1, "c": 0, "b": 0}
        lit_rooms(EXAMPLE, ledger).clear()
        lit_parts(EXAMPLE, ledger)[0].clear()
        self.assertEqual(lit_rooms(EXAMPLE, ledger), ["a", "d"])
        self.assertEqual(lit_parts(EXAMPLE, ledger), [["a"], ["d"]])
        self.assertEqual(list(ledger.items()), [("d", 2), ("a", 1), ("c", 0), ("b", 0)])
        ledger_of(EXAMPLE, ["a"]).clear()
        self.assertEqual(ledger_of(EXAMPLE, ["a"]), {"a": 1, "b": 0, "c": 0, "d": 0})

    def test_great_ones(self):
        for house in great_houses():
            rooms = house.rooms()
            whole = {room: 6 for room in rooms}
            self.assertEqual(lit_rooms(house, whole), rooms)
            self.assertEqual(lit_parts(house, whole), [rooms])
            self.assertEqual(lit_house(house, whole), house)
            holes = {room: index % 3 for index, room in enumerate(rooms)}
            self.assertEqual(lit_parts(house, holes), [list(part) for part in parts_of(house, holes)])
            self.assertEqual(ledger_of(house, [rooms[0]] * 400)[rooms[0]], 400)


if __name__ == "__main__":
    unittest.main()
