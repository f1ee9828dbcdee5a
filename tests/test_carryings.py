"""[9] and [11]: carryings, and what holds of all of them."""

import unittest
from itertools import product

from lamplight.carryings import first_lit, is_carrying, passes, stays, stays_by
from lamplight.errors import BadCarrying, BadPasses, NoRoom
from lamplight.houses import House
from tests.brute import (EXAMPLE, ONE_ROOM, TWO_ROOMS, any_objects, great_houses, row_house, rows, small_houses,
                         walk_between, walks, walks_to)

CARRYING = ["a", "b", "b", "c", "b", "d"]


def pairs(house):
    return sorted((one, other) for one, others in rows(house).items() for other in others)


def without_waits(house, most):
    """All carryings of at most so many hours that never wait."""
    near = rows(house)
    told = last = [(room,) for room in house.rooms()]
    for _ in range(most - 1):
        last = [walk + (room,) for walk in last for room in near[walk[-1]]]
        told = told + last
    return told


class CarryingsTest(unittest.TestCase):
    def test_example(self):
        self.assertEqual(stays(EXAMPLE, CARRYING), [("a", 1), ("b", 2), ("c", 1), ("b", 1), ("d", 1)])
        counted = passes(EXAMPLE, CARRYING)
        self.assertEqual(list(counted.items()), [
            (("a", "b"), 1), (("b", "a"), 0), (("b", "c"), 1), (("b", "d"), 1), (("c", "b"), 1), (("d", "b"), 0)])
        self.assertEqual(list(first_lit(EXAMPLE, CARRYING).items()), [("a", 0), ("b", 1), ("c", 3), ("d", 5)])
        self.assertEqual(stays_by(EXAMPLE, counted, "a", "d"), {"a": 1, "b": 2, "c": 1, "d": 1})

    def test_is_carrying(self):
        for house in (ONE_ROOM, TWO_ROOMS, EXAMPLE, row_house(list("bca"))):
            near = rows(house)
            for many in range(5):
                for trial in product(house.rooms() + ["zz"], repeat=many):
                    right = many > 0 and "zz" not in trial
                    right = right and all(o in near[r] + [r] for r, o in zip(trial, trial[1:]))
                    self.assertIs(is_carrying(house, trial), right)
                    self.assertIs(is_carrying(house, list(trial)), right)

    def test_is_carrying_of_any_object(self):
        for thing in any_objects():
            self.assertIs(is_carrying(EXAMPLE, thing), thing == ["a"] and isinstance(thing, list))
            self.assertIs(is_carrying(EXAMPLE, ["a", thing]), False)
            self.assertIs(is_carrying(EXAMPLE, [thing]), False)
        self.assertIs(is_carrying(EXAMPLE, "a"), False)
        self.assertIs(is_carrying(EXAMPLE, {"a": 1}), False)

    def test_bad_carrying(self):
        for call in (stays, passes, first_lit):
            for thing in any_objects():
                for carrying, index in (([thing], 0), (["a", "a", thing, None], 2), (("b", thing), 1)):
                    with self.assertRaises(BadCarrying) as caught:
                        call(EXAMPLE, carrying)
                    self.assertEqual(caught.exception.index, index)
                if not (isinstance(thing, (list, tuple)) and thing and thing[0] == "a"):
                    with self.assertRaises(BadCarrying) as caught:
                        call(EXAMPLE, thing)
                    self.assertEqual(caught.exception.index, 0)
            for carrying, index in ((["a", "c"], 1), (("c", "b", "a", "d"), 3), ([], 0), ((), 0)):
                with self.assertRaises(BadCarrying) as caught:
                    call(EXAMPLE, carrying)
                self.assertEqual(caught.exception.index, index)

    def test_all_of_a_few_hours(self):
        for house in small_houses():
            for walk in walks_to(house, 5):
                told = stays(house, list(walk))
                self.assertEqual([room for room, hours in told for _ in range(hours)], list(walk))
                self.assertTrue(all(one[0] != other[0] for one, other in zip(told, told[1:])))
                moves = list(zip(walk, walk[1:]))
                counted = passes(house, walk)
                self.assertEqual(list(counted.items()), [(pair, moves.count(pair)) for pair in pairs(house)])
                lit = first_lit(house, walk)
                self.assertEqual(list(lit.items()), [(r, k) for k, r in enumerate(walk) if r not in walk[:k]])

    def test_what_holds_of_all(self):
        for house in small_houses():
            for walk in walks_to(house, 6):
                counted = passes(house, walk)
                on_way = walk_between(house, walk[0], walk[-1])
                for one, other in zip(on_way, on_way[1:]):
                    self.assertEqual(counted.pop((one, other)), counted.pop((other, one)) + 1)
                self.assertTrue(all(counted[(o, r)] == many for (r, o), many in counted.items()))
                told = stays_by(house, passes(house, walk), walk[0], walk[-1])
                stayed = [room for room, _ in stays(house, walk)]
                self.assertEqual(list(told.items()), [(room, stayed.count(room)) for room in house.rooms()])

    def test_stays_by_tells_none_just_where_no_carrying_is(self):
        cases = [(ONE_ROOM, 9), (TWO_ROOMS, 4), (row_house(list("acb")), 2), (row_house(list("abcd")), 1), (EXAMPLE, 1)]
        for house, greatest in cases:
            names = pairs(house)
            right = {}
            for walk in without_waits(house, greatest * len(names) + 1):
                moves = list(zip(walk, walk[1:]))
                key = (tuple(moves.count(pair) for pair in names), walk[0], walk[-1])
                right[key] = {room: walk.count(room) for room in house.rooms()}
            for many in product(range(greatest + 1), repeat=len(names)):
                for first, last in product(house.rooms(), repeat=2):
                    told = stays_by(house, dict(zip(names, many)), first, last)
                    self.assertEqual(told, right.get((many, first, last)))

    def test_stays_by_wants_doors_that_hang_together(self):
        house = row_house(list("abcd"))
        counted = {pair: 0 for pair in pairs(house)}
        counted[("c", "d")] = counted[("d", "c")] = 2
        self.assertEqual(stays_by(house, counted, "c", "c"), {"a": 0, "b": 0, "c": 3, "d": 2})
        self.assertIsNone(stays_by(house, counted, "a", "a"))
        counted[("a", "b")] = counted[("b", "a")] = 1
        self.assertIsNone(stays_by(house, counted, "c", "c"))
        self.assertIsNone(stays_by(house, counted, "a", "a"))

    def test_stays_by_of_no_passes(self):
        for house in (ONE_ROOM, TWO_ROOMS, EXAMPLE):
            none = {pair: 0 for pair in pairs(house)}
            for first, last in product(house.rooms(), repeat=2):
                expected = {room: int(room == first) for room in house.rooms()} if first == last else None
                self.assertEqual(stays_by(house, none, first, last), expected)

    def test_bad_passes(self):
        right = passes(EXAMPLE, CARRYING)
        less = dict(right)
        del less[("a", "b")]
        wrong = any_objects() + [less, {**right, ("a", "c"): 0}, {**less, ("a", "c"): 1}, list(right.items())]
        wrong += [{**right, ("b", "c"): thing} for thing in (-1, True, False, None, "1", [1], (0,))]
        for thing in wrong:
            with self.assertRaises(BadPasses) as caught:
                stays_by(EXAMPLE, thing, "x", None)
            self.assertIs(caught.exception.thing, thing)

    def test_then_no_room(self):
        right = passes(EXAMPLE, CARRYING)
        for thing in any_objects():
            for ends in ((thing, None), ("a", thing)):
                with self.assertRaises(NoRoom) as caught:
                    stays_by(EXAMPLE, right, *ends)
                self.assertIs(caught.exception.thing, thing)

    def test_what_is_passed_is_not_changed_and_what_is_told_is_new(self):
        carrying = list(CARRYING)
        for call in (stays, passes, first_lit):
            kept = call(EXAMPLE, carrying)
            call(EXAMPLE, carrying).clear()
            self.assertEqual(call(EXAMPLE, tuple(carrying)), kept)
        counted = passes(EXAMPLE, carrying)
        stays_by(EXAMPLE, counted, "a", "d").clear()
        self.assertEqual(stays_by(EXAMPLE, dict(reversed(counted.items())), "a", "d")["b"], 2)
        self.assertEqual(counted, passes(EXAMPLE, carrying))
        self.assertEqual(carrying, CARRYING)

    def test_great_ones(self):
        for house in great_houses():
            near = rows(house)
            walk = [house.rooms()[0]]
            for hour in range(399):
                walk.append((near[walk[-1]] + [walk[-1]])[hour * 7 % (len(near[walk[-1]]) + 1)])
            self.assertTrue(is_carrying(house, walk))
            self.assertEqual(sum(hours for _, hours in stays(house, walk)), 400)
            stayed = [room for room, _ in stays(house, walk)]
            told = stays_by(house, passes(house, walk), walk[0], walk[-1])
            self.assertEqual(told, {room: stayed.count(room) for room in house.rooms()})
            self.assertEqual(list(first_lit(house, walk)), list(dict.fromkeys(walk)))

    def test_many_carryings_of_one_room(self):
        self.assertEqual([stays(ONE_ROOM, walk) for walk in walks(ONE_ROOM, 400)], [[("a", 400)]])
        self.assertEqual(passes(House(["a"], ()), ["a"] * 3), {})


if __name__ == "__main__":
    unittest.main()
