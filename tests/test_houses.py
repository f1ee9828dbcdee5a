"""[2], [3] and [7]: houses."""

import unittest

from lamplight.errors import BadDoors, BadRooms, LampError, NoRoom, NotJoined
from lamplight.houses import House, beside
from tests.brute import EXAMPLE, ONE_ROOM, TWO_ROOMS, any_objects, great_houses


class HouseTest(unittest.TestCase):
    def refused(self, error, rooms, doors):
        with self.assertRaises(error) as caught:
            House(rooms, doors)
        self.assertIs(type(caught.exception), error)
        return caught.exception

    def test_what_it_tells(self):
        house = House(["d", "b", "a", "c"], [("b", "d"), ("c", "b"), ("b", "a")])
        self.assertEqual(house.rooms(), ["a", "b", "c", "d"])
        self.assertEqual(house.doors(), [("a", "b"), ("b", "c"), ("b", "d")])
        self.assertEqual(len(house), 4)
        self.assertIs(type(house.rooms()), list)
        self.assertTrue(all(type(door) is tuple for door in house.doors()))
        self.assertEqual(beside(house, "b"), ["a", "c", "d"])
        self.assertEqual(beside(house, "d"), ["b"])

    def test_one_room_and_two(self):
        self.assertEqual((ONE_ROOM.rooms(), ONE_ROOM.doors(), len(ONE_ROOM)), (["a"], [], 1))
        self.assertEqual(beside(ONE_ROOM, "a"), [])
        self.assertEqual((TWO_ROOMS.rooms(), TWO_ROOMS.doors(), len(TWO_ROOMS)), (["a", "b"], [("a", "b")], 2))
        self.assertEqual(beside(TWO_ROOMS, "a"), ["b"])

    def test_lists_and_tuples(self):
        tuples = House(("a", "b", "c"), (("a", "b"), ("c", "b")))
        lists = House(["a", "b", "c"], [["b", "a"], ["b", "c"]])
        self.assertEqual(tuples, lists)
        self.assertEqual(lists.doors(), [("a", "b"), ("b", "c")])

    def test_it_never_changes(self):
        rooms = ["b", "a"]
        doors = [["b", "a"]]
        house = House(rooms, doors)
        self.assertEqual((rooms, doors), (["b", "a"], [["b", "a"]]))
        rooms.append("c")
        doors[0][0] = "x"
        house.rooms().append("c")
        house.doors().clear()
        beside(house, "a").append("z")
        self.assertEqual((house.rooms(), house.doors(), beside(house, "a")), (["a", "b"], [("a", "b")], ["b"]))

    def test_names(self):
        for name in ("a", "z", "a0", "z9", "abcdefghijkl", "a12345678901"):
            self.assertEqual(House([name], []).rooms(), [name])
        foreign = ["\xe4", "a\xb2", "\u0430", "a\u0663", "a\n"]
        for name in ["", "A", "aB", "0", "1a", "a_", "a b", "abcdefghijklm"] + foreign:
            self.assertEqual(self.refused(BadRooms, ["x", name], []).index, 1)

    def test_bad_rooms(self):
        for thing in any_objects():
            if not isinstance(thing, (list, tuple)):
                self.assertEqual(self.refused(BadRooms, thing, None).index, 0)
            if thing not in ("zz", "dark"):
                self.assertEqual(self.refused(BadRooms, ["a", "b", thing, "B"], None).index, 2)
        for empty in ([], ()):
            self.assertEqual(self.refused(BadRooms, empty, 5).index, 0)
        self.assertEqual(self.refused(BadRooms, ["a", "b", "c", "b", "a"], None).index, 3)
        self.assertEqual(self.refused(BadRooms, [3], None).index, 0)

    def test_bad_doors(self):
        rooms = ["a", "b", "c"]
        for thing in any_objects():
            if not isinstance(thing, (list, tuple)):
                self.assertEqual(self.refused(BadDoors, rooms, thing).index, 0)
            self.assertEqual(self.refused(BadDoors, rooms, [("a", "b"), thing, None]).index, 1)
            self.assertEqual(self.refused(BadDoors, rooms, [("a", thing)]).index, 0)
            self.assertEqual(self.refused(BadDoors, rooms, [(thing, "a")]).index, 0)
        for thing in (("a", "a"), ("a", "x"), ("a",), ("a", "b", "c"), "ab", {"a": 1, "b": 2}):
            self.assertEqual(self.refused(BadDoors, rooms, [("c", "b"), thing]).index, 1)

    def test_rings_are_bad_doors(self):
        rooms = ["a", "b", "c", "d"]
        self.assertEqual(self.refused(BadDoors, rooms, [("a", "b"), ("c", "d"), ["b", "a"]]).index, 2)
        self.assertEqual(self.refused(BadDoors, rooms, [("a", "b"), ("b", "c"), ("c", "a"), 4]).index, 2)
        self.assertEqual(self.refused(BadDoors, rooms, [("a", "b"), ("c", "d"), ("b", "c"), ("a", "d")]).index, 3)

    def test_not_joined(self):
        self.assertEqual(self.refused(NotJoined, ["b", "a"], []).room, "b")
        self.assertEqual(self.refused(NotJoined, ["d", "c", "b", "a"], [("a", "d"), ("b", "c")]).room, "b")
        self.assertEqual(self.refused(NotJoined, ["d", "c", "b", "a"], [("b", "a"), ("c", "d")]).room, "c")
        self.assertEqual(self.refused(NotJoined, ["a", "b", "c"], [("b", "c")]).room, "b")

    def test_which_error_comes_first(self):
        self.assertEqual(self.refused(BadRooms, ["a", "a"], None).index, 1)
        self.assertEqual(self.refused(BadDoors, ["a", "b", "c"], [("b", "b")]).index, 0)

    def test_equal(self):
        self.assertTrue(EXAMPLE == House(("d", "c", "b", "a"), [["b", "d"], ["c", "b"], ["b", "a"]]))
        self.assertFalse(EXAMPLE != House(["d", "c", "b", "a"], [("b", "d"), ("c", "b"), ("b", "a")]))
        self.assertFalse(EXAMPLE == House(["a", "b", "c", "d"], [("a", "b"), ("b", "c"), ("c", "d")]))
        self.assertFalse(ONE_ROOM == House(["b"], []))
        self.assertFalse(ONE_ROOM == TWO_ROOMS)
        for thing in any_objects() + [EXAMPLE.rooms(), (EXAMPLE.rooms(), EXAMPLE.doors())]:
            if thing is not EXAMPLE:
                self.assertFalse(EXAMPLE == thing)
                self.assertFalse(thing == EXAMPLE)

    def test_no_room(self):
        for thing in any_objects():
            with self.assertRaises(NoRoom) as caught:
                beside(EXAMPLE, thing)
            self.assertIs(caught.exception.thing, thing)
            self.assertIsInstance(caught.exception, LampError)

    def test_great_ones(self):
        for house in great_houses():
            self.assertEqual(len(house.doors()), len(house) - 1)
            self.assertEqual(house.rooms(), sorted(house.rooms()))
            self.assertEqual(sum(len(beside(house, room)) for room in house.rooms()), 2 * (len(house) - 1))
            self.assertEqual(house, House(house.rooms(), house.doors()))

    def test_what_is_refused_may_be_longer(self):
        rooms = [f"r{k}" for k in range(3000)]
        self.assertEqual(self.refused(BadRooms, rooms + ["r7"], []).index, 3000)
        doors = list(zip(rooms, rooms[1:]))
        self.assertEqual(self.refused(BadDoors, rooms, doors + [("r0", "r2999")]).index, 2999)
        self.assertEqual(self.refused(NotJoined, rooms, doors[:-1]).room, "r2999")


if __name__ == "__main__":
    unittest.main()
