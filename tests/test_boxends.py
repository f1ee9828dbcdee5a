"""[50]: first and last rooms, and passes, of the carryings of a box."""

import unittest

from lamplight.boxends import box_ends, door_passes
from lamplight.errors import BadBox, NoDoor, NoRoom, NotPossible
from lamplight.houses import House
from tests.brute import (EXAMPLE, ONE_ROOM, SPIDER, TWO_ROOMS, five_room_houses, great_houses, reached_ends,
                         reached_passes, rows, small_houses)
from tests.checks import Checks, no_rooms
from tests.test_boxes import random_boxes, wrong_boxes

BOX = {**{room: (1, 1) for room in "acd"}, "b": (1, 2)}
WIDE = {**BOX, "b": (1, 4)}


class BoxEndsTest(Checks):
    def test_example(self):
        unlike = [(one, other) for one in "acd" for other in "acd" if one != other]
        self.assertEqual(box_ends(EXAMPLE, BOX), unlike)
        for room in "acd":
            self.assertEqual(door_passes(EXAMPLE, WIDE, room, "b"), [1, 2])
            self.assertEqual(door_passes(EXAMPLE, WIDE, "b", room), [1, 2])

    def test_all_ends_of_boxes(self):
        known = {}
        for house in small_houses() + five_room_houses() + [SPIDER]:
            known[str(house.doors())] = reached_ends(house, 10 if len(house) > 5 else 12)
        for seed, most in ((51, 3), (52, 2), (53, 4)):
            for house, box, possible in random_boxes(seed, 300, 0, most):
                if not possible:
                    self.check_error(NotPossible, {}, box_ends, house, box)
                    self.check_error(NotPossible, {}, door_passes, house, box, None, None)
                    continue
                there = known[str(house.doors())]
                expected = sorted({pair for row in possible for pair in there[row]})
                self.assertEqual(box_ends(house, box), expected, (house.doors(), box))

    def test_all_passes_of_boxes(self):
        known = {}
        for house in small_houses() + five_room_houses():
            for door in house.doors():
                known[(str(house.doors()), door)] = reached_passes(house, 12 if len(house) < 5 else 11, door)
        told = 0
        for seed, most in ((54, 3), (55, 4), (56, 6)):
            for house, box, possible in random_boxes(seed, 250, 0, most):
                whole = sum(top for _, top in box.values())
                if not possible or len(house) > 5 or whole > (12 if len(house) < 5 else 11):
                    continue
                for one, other in house.doors():
                    there = known[(str(house.doors()), (one, other))]
                    expected = sorted({many for row in possible for many in there[row]})
                    self.assertEqual(door_passes(house, box, one, other), expected, (house.doors(), box))
                    self.assertEqual(door_passes(house, box, other, one), expected)
                    told += 1
        self.assertGreater(told, 500)

    def test_doors_on_no_way(self):
        """Of tight rooms b and d, each way between first and last rooms has both, and never the door to x."""
        house = House(list("abmdex"), [("a", "b"), ("b", "m"), ("m", "d"), ("d", "e"), ("m", "x")])
        box = {**{room: (1, 1) for room in "abde"}, "m": (3, 5), "x": (1, 2)}
        reached = {door: reached_passes(house, 11, door) for door in house.doors()}
        for one, other in house.doors():
            possible = [row for row in reached[(one, other)]
                        if all(box[room][0] <= hours <= box[room][1] for room, hours in zip(house.rooms(), row))]
            expected = sorted({many for row in possible for many in reached[(one, other)][row]})
            self.assertEqual(door_passes(house, box, one, other), expected)
        self.assertEqual(door_passes(house, box, "m", "x"), [2, 4])
        self.assertEqual(door_passes(house, box, "a", "b"), [1])

    def test_few_rooms(self):
        self.assertEqual(box_ends(ONE_ROOM, {"a": (1, 1)}), [("a", "a")])
        self.assertEqual(box_ends(TWO_ROOMS, {"a": (1, 1), "b": (1, 1)}), [("a", "b"), ("b", "a")])
        self.assertEqual(box_ends(TWO_ROOMS, {"a": (1, 2), "b": (1, 1)}), [("a", "a"), ("a", "b"), ("b", "a")])
        self.assertEqual(door_passes(TWO_ROOMS, {"a": (1, 1), "b": (1, 1)}, "a", "b"), [1])
        self.assertEqual(door_passes(TWO_ROOMS, {"a": (1, 3), "b": (1, 3)}, "b", "a"), [1, 2, 3, 4, 5])

    def test_errors(self):
        for thing in wrong_boxes(WIDE) + [{**WIDE, room: (0, 5)} for room in WIDE]:
            self.check_error(BadBox, {"thing": thing}, box_ends, EXAMPLE, thing)
            self.check_error(BadBox, {"thing": thing}, door_passes, EXAMPLE, thing, None, None)
        none = {**WIDE, "b": (1, 1)}
        self.check_error(NotPossible, {}, box_ends, EXAMPLE, none)
        self.check_error(NotPossible, {}, door_passes, EXAMPLE, none, None, None)
        for thing in no_rooms():
            self.check_error(NoRoom, {"thing": thing}, door_passes, EXAMPLE, WIDE, thing, None)
            self.check_error(NoRoom, {"thing": thing}, door_passes, EXAMPLE, WIDE, "a", thing)
        for one, other in (("a", "c"), ("d", "d"), ("c", "d"), ("b", "b")):
            self.check_error(NoDoor, {"one": one, "other": other}, door_passes, EXAMPLE, WIDE, one, other)

    def test_kept(self):
        box = {"d": (1, 2), "b": (1, 3), "a": (1, 2), "c": (1, 1)}
        self.check_kept(box_ends, EXAMPLE, box)
        self.check_kept(door_passes, EXAMPLE, box, "b", "a")

    def test_great_ones(self):
        for house in great_houses(30):
            near = rows(house)
            box = {room: (1, 100) for room in near}
            self.assertEqual(len(box_ends(house, box)), 900)
            for one, other in house.doors()[:4]:
                told = door_passes(house, box, one, other)
                # Once or twice, and what the room with more doors has over, on a way that begins and ends further off.
                over = 100 - (max(len(near[one]), len(near[other])) - 1)
                self.assertEqual(told, list(range(1, len(told) + 1)))
                self.assertIn(len(told) - 2 * over, (1, 2))
        row = great_houses(30)[0]
        self.assertEqual(box_ends(row, {room: (1, 1) for room in row.rooms()}), [("r0", "r29"), ("r29", "r0")])


if __name__ == "__main__":
    unittest.main()
