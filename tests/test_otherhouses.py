"""[12]: other houses."""

import unittest
from itertools import permutations

from lamplight.errors import BadName, BadNames, BadSome, CommonRoom, NoRoom, NotJoined
from lamplight.houses import House
from lamplight.otherhouses import built_on, joined_by, part_of, renamed
from tests.brute import (EXAMPLE, ONE_ROOM, SPIDER, TWO_ROOMS, any_objects, great_houses, row_house, small_houses,
                         walk_between)


class OtherHousesTest(unittest.TestCase):
    def refused(self, error, call, *things):
        with self.assertRaises(error) as caught:
            call(*things)
        return caught.exception

    def test_part_of(self):
        for house in small_houses() + [SPIDER]:
            for many in range(1, min(4, len(house)) + 1):
                for some in permutations(house.rooms(), many):
                    joined = [o for o in some if set(walk_between(house, min(some), o)) <= set(some)]
                    if len(joined) == many:
                        doors = [door for door in house.doors() if set(door) <= set(some)]
                        self.assertEqual(part_of(house, some), House(some, doors))
                        self.assertEqual(part_of(house, list(some)), House(some, doors))
                    else:
                        error = self.refused(NotJoined, part_of, house, some)
                        self.assertEqual(error.room, min(set(some) - set(joined)))

    def test_part_of_bad_some(self):
        for thing in any_objects():
            if not isinstance(thing, (list, tuple)):
                self.assertEqual(self.refused(BadSome, part_of, EXAMPLE, thing).index, 0)
            self.assertEqual(self.refused(BadSome, part_of, EXAMPLE, ["a", "c", thing, "a"]).index, 2)
        self.assertEqual(self.refused(BadSome, part_of, EXAMPLE, ["a", "c", "a"]).index, 2)
        for empty in ([], ()):
            self.assertEqual(self.refused(BadSome, part_of, EXAMPLE, empty).index, 0)

    def test_built_on(self):
        self.assertEqual(built_on(ONE_ROOM, "a", "b"), TWO_ROOMS)
        self.assertEqual(built_on(TWO_ROOMS, "b", "a0"), House(["a", "b", "a0"], [("a", "b"), ("a0", "b")]))
        self.assertEqual(len(ONE_ROOM), 1)

    def test_built_on_errors(self):
        for thing in any_objects():
            self.assertIs(self.refused(NoRoom, built_on, EXAMPLE, thing, None).thing, thing)
            if thing not in ("zz", "dark"):
                self.assertIs(self.refused(BadName, built_on, EXAMPLE, "a", thing).thing, thing)
        for name in ("a", "d", "B", "abcdefghijklm", ""):
            self.assertEqual(self.refused(BadName, built_on, EXAMPLE, "a", name).thing, name)

    def test_joined_by(self):
        far = House(["y", "x"], [("x", "y")])
        told = joined_by(EXAMPLE, far, "c", "y")
        self.assertEqual(told.rooms(), ["a", "b", "c", "d", "x", "y"])
        self.assertEqual(told.doors(), [("a", "b"), ("b", "c"), ("b", "d"), ("c", "y"), ("x", "y")])
        self.assertEqual(joined_by(far, EXAMPLE, "y", "c"), told)

    def test_joined_by_errors(self):
        far = House(["y", "x", "c", "b"], [("x", "y"), ("y", "b"), ("b", "c")])
        for thing in any_objects():
            self.assertIs(self.refused(NoRoom, joined_by, EXAMPLE, far, thing, 0).thing, thing)
            self.assertIs(self.refused(NoRoom, joined_by, EXAMPLE, far, "a", thing).thing, thing)
        self.assertEqual(self.refused(NoRoom, joined_by, EXAMPLE, far, "x", "a").thing, "x")
        self.assertEqual(self.refused(NoRoom, joined_by, EXAMPLE, far, "a", "a").thing, "a")
        self.assertEqual(self.refused(CommonRoom, joined_by, EXAMPLE, far, "a", "x").name, "b")
        self.assertEqual(self.refused(CommonRoom, joined_by, EXAMPLE, EXAMPLE, "d", "d").name, "a")

    def test_renamed(self):
        told = renamed(EXAMPLE, {"a": "d", "b": "x", "d": "a", "c": "c"})
        self.assertEqual(told, House(["a", "c", "d", "x"], [("d", "x"), ("c", "x"), ("a", "x")]))
        self.assertEqual(renamed(ONE_ROOM, {"a": "a"}), ONE_ROOM)
        self.assertEqual(renamed(row_house(list("abc")), {"a": "b", "b": "a", "c": "c"}), row_house(list("bac")))

    def test_renamed_errors(self):
        right = {"a": "d", "b": "x", "c": "y", "d": "a"}
        less = {"a": "d", "b": "x", "c": "y"}
        wrong = any_objects() + [less, list(right.items())]
        wrong += [{**right, "e": "e"}, {**less, "e": "e"}, {**right, "c": "x"}, {**right, "e": "x"}]
        wrong += [{**right, "c": thing} for thing in any_objects() if thing not in ("zz", "dark")]
        for thing in wrong:
            self.assertIs(self.refused(BadNames, renamed, EXAMPLE, thing).thing, thing)

    def test_what_is_passed_is_not_changed(self):
        some = ["c", "b"]
        names = {"d": "x", "a": "d", "b": "b", "c": "c"}
        part_of(EXAMPLE, some)
        renamed(EXAMPLE, names)
        built_on(EXAMPLE, "a", "e")
        self.assertEqual(some, ["c", "b"])
        self.assertEqual(list(names.items()), [("d", "x"), ("a", "d"), ("b", "b"), ("c", "c")])
        self.assertEqual(len(EXAMPLE), 4)

    def test_great_ones(self):
        for house in great_houses():
            rooms = house.rooms()
            self.assertEqual(part_of(house, rooms), house)
            names = {room: f"n{index}" for index, room in enumerate(rooms)}
            back = {name: room for room, name in names.items()}
            self.assertEqual(renamed(renamed(house, names), back), house)
            both = joined_by(house, renamed(house, names), rooms[3], "n5")
            self.assertEqual(len(both), 120)
            self.assertEqual(part_of(both, rooms), house)
            self.assertEqual(len(built_on(house, rooms[-1], "new")), 61)


if __name__ == "__main__":
    unittest.main()
