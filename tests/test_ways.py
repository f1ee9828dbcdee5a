"""[8]: ways."""

import unittest
from itertools import combinations, permutations, product

from lamplight.errors import BadSome, NoDoor, NoRoom
from lamplight.ways import behind, least_way, meeting, way
from tests.brute import (EXAMPLE, ONE_ROOM, SPIDER, TWO_ROOMS, all_houses, any_objects, great_houses, lie_on_one_way,
                         rows, walk_between)


class WaysTest(unittest.TestCase):
    def houses(self):
        return [ONE_ROOM, TWO_ROOMS, SPIDER] + all_houses(["a", "b", "c"]) + all_houses(["c", "a", "d", "b"])

    def test_example(self):
        self.assertEqual(way(EXAMPLE, "a", "d"), ["a", "b", "d"])
        self.assertEqual(least_way(EXAMPLE, ["c", "a"]), ["a", "b", "c"])
        self.assertIsNone(least_way(EXAMPLE, ["a", "c", "d"]))
        self.assertEqual(meeting(EXAMPLE, "a", "c", "d"), "b")
        self.assertEqual(behind(EXAMPLE, "a", "b"), ["b", "c", "d"])

    def test_way(self):
        for house in self.houses():
            for one, other in product(house.rooms(), repeat=2):
                self.assertEqual(way(house, one, other), walk_between(house, one, other))

    def test_least_way(self):
        for house in self.houses()[:-8]:
            for many in range(0, min(4, len(house)) + 1):
                for some in permutations(house.rooms(), many):
                    told = least_way(house, some)
                    self.assertEqual(least_way(house, list(some)), told)
                    ways = [walk_between(house, *pair) for pair in product(house.rooms(), repeat=2)]
                    ways = [rooms for rooms in ways if set(some) <= set(rooms) and rooms[0] <= rooms[-1]]
                    expected = min(ways, key=len) if ways and some else ([] if not some else None)
                    self.assertEqual(told, expected)

    def test_meeting(self):
        for house in self.houses():
            for three in product(house.rooms(), repeat=3):
                ways = [set(walk_between(house, one, other)) for one, other in combinations(three, 2)]
                self.assertEqual({meeting(house, *three)}, ways[0] & ways[1] & ways[2])

    def test_three_by_three(self):
        for house in self.houses():
            for many in range(len(house) + 1):
                for some in combinations(house.rooms(), many):
                    threes = all(meeting(house, *three) in three for three in combinations(some, 3))
                    self.assertEqual(threes, lie_on_one_way(house, some) if some else True)
                    self.assertEqual(threes, least_way(house, some) is not None)

    def test_behind(self):
        for house in self.houses():
            near = rows(house)
            for room in house.rooms():
                for other in near[room]:
                    expected = [o for o in house.rooms() if o != room and walk_between(house, room, o)[1] == other]
                    self.assertEqual(behind(house, room, other), expected)

    def test_no_room(self):
        calls = {
            2: [lambda *two: way(EXAMPLE, *two), lambda *two: behind(EXAMPLE, *two)],
            3: [lambda *three: meeting(EXAMPLE, *three)],
        }
        for thing, later in zip(any_objects(), [[x] for x in any_objects()]):
            for many, functions in calls.items():
                for at in range(many):
                    for call in functions:
                        with self.assertRaises(NoRoom) as caught:
                            call(*(["a"] * at + [thing] + [later] * (many - at - 1)))
                        self.assertIs(caught.exception.thing, thing)

    def test_no_door(self):
        for one, other in (("a", "c"), ("a", "a"), ("d", "c"), ("b", "b")):
            with self.assertRaises(NoDoor) as caught:
                behind(EXAMPLE, one, other)
            self.assertEqual((caught.exception.one, caught.exception.other), (one, other))

    def test_bad_some(self):
        for thing in any_objects():
            if not isinstance(thing, (list, tuple)):
                with self.assertRaises(BadSome) as caught:
                    least_way(EXAMPLE, thing)
                self.assertEqual(caught.exception.index, 0)
            with self.assertRaises(BadSome) as caught:
                least_way(EXAMPLE, ["c", "d", thing, "c"])
            self.assertEqual(caught.exception.index, 2)
        with self.assertRaises(BadSome) as caught:
            least_way(EXAMPLE, ("c", "d", "a", "d", 0))
        self.assertEqual(caught.exception.index, 3)

    def test_told_lists_are_new(self):
        some = ["d", "b"]
        for call, things in ((way, ("a", "c")), (least_way, (some,)), (behind, ("a", "b"))):
            told = call(EXAMPLE, *things)
            kept = list(told)
            told.append("x")
            self.assertEqual(call(EXAMPLE, *things), kept)
        self.assertEqual(some, ["d", "b"])

    def test_great_ones(self):
        for house in great_houses():
            rooms = house.rooms()
            for one, other in zip(rooms, reversed(rooms)):
                self.assertEqual(way(house, one, other), walk_between(house, one, other))
                self.assertEqual(least_way(house, sorted(way(house, one, other)))[0], min(one, other))
                self.assertIn(meeting(house, one, other, rooms[0]), way(house, one, other))
            for one, other in house.doors():
                self.assertEqual(sorted(behind(house, one, other) + behind(house, other, one)), rooms)


if __name__ == "__main__":
    unittest.main()
