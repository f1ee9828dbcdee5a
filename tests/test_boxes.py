"""[43] and [44]: boxes, needed rooms."""

import random
import unittest
from itertools import combinations, product

from lamplight.boxes import box_fault, can_light, is_possible, needed_rooms, some_ledger, wiped
from lamplight.errors import BadBox, BadLedger, BadNumber, BadSome
from lamplight.onelaw import holds
from tests.brute import (EXAMPLE, ONE_ROOM, SPIDER, TWO_ROOMS, any_objects, as_ledger, five_room_houses, great_houses,
                         ledger_rows, lie_on_one_way, reached_rows, row_house, rows, small_houses, three_arms,
                         walk_between)
from tests.checks import Checks, wrong_ledgers

RIGHT = {"a": 1, "b": 2, "c": 1, "d": 1}
BOX = {"a": (1, 1), "b": (1, 2), "c": (0, 2), "d": (0, 0)}


def wrong_boxes(box):
    told = wrong_ledgers({room: 1 for room in box})
    for room in box:
        for wrong in [(1,), (1, 2, 3), (2, 1), (-1, 2), (True, 2), (0, True), ("0", 2), (0, None), None, "ab", 2, {}]:
            told.append({**box, room: wrong})
        told.append({name: box[name] for name in box if name != room})
        told.append({name if name != room else "zz": box[name] for name in box})
    told += [{**box, "zz": (0, 1)}, {room: (0, 0) for room in box}, list(box.items())]
    return told


def random_boxes(seed, many, least, most):
    """Triples of a house, a box and all possible ledgers' rows, by going through all hours of the box."""
    dice = random.Random(seed)
    houses = [(house, 12) for house in small_houses() + five_room_houses()] + [(SPIDER, 10)]
    there = {id(house): reached_rows(house, hours) for house, hours in houses}
    told = []
    while len(told) < many:
        house, hours = dice.choice(houses)
        box = {}
        for room in house.rooms():
            low = 0 if dice.random() < least else dice.randint(1, 2)
            box[room] = (low, dice.randint(low, most))
        if 0 < sum(top for _, top in box.values()) <= hours:
            spans = [range(low, top + 1) for low, top in box.values()]
            told.append((house, box, [row for row in product(*spans) if row in there[id(house)]]))
    return told


def fault_by_words(house, box):
    needed = needed_by_words(house, box)
    near = rows(house)
    doors = {room: sum(far in needed for far in near[room]) for room in needed}
    few = [room for room in needed if box[room][1] < doors[room] - 1 or box[room][1] == 0]
    if few:
        return ("few", few[0])
    tight = [room for room in needed if len(needed) > 1 and box[room][1] == doors[room] - 1]
    apart = [three for three in combinations(tight, 3) if not lie_on_one_way(house, three)]
    return ("apart",) + apart[0] if apart else None


def needed_by_words(house, box):
    sure = [room for room in house.rooms() if box[room][0] > 0]
    return sorted({room for one in sure for other in sure for room in walk_between(house, one, other)})


class BoxesTest(Checks):
    def test_example(self):
        box = {**{room: (1, 1) for room in "acd"}, "b": (1, 2)}
        self.assertIsNone(box_fault(EXAMPLE, box))
        self.assertEqual(some_ledger(EXAMPLE, box), RIGHT)
        self.assertEqual(needed_rooms(EXAMPLE, box), list("abcd"))
        self.assertEqual(box_fault(EXAMPLE, {**box, "b": (1, 1)}), ("few", "b"))

    def check(self, house, box, possible):
        fault = box_fault(house, box)
        self.assertEqual(fault, fault_by_words(house, box))
        self.assertEqual(fault is None, possible != [])
        self.assertEqual(needed_rooms(house, box), needed_by_words(house, box))
        told = some_ledger(house, box)
        if possible:
            self.assertEqual(list(told), house.rooms())
            self.assertIn(tuple(told.values()), possible)
            self.assertEqual(sum(told.values()), min(sum(row) for row in possible), (house.doors(), box))
            self.assertIs(is_possible(house, box, told), True)
        else:
            self.assertIsNone(told)
        expected = [room for at, room in enumerate(house.rooms()) if any(row[at] for row in possible)]
        self.assertEqual(can_light(house, box), expected)

    def test_all_ledgers_of_boxes(self):
        for seed, least, most in ((1, 0.6, 3), (2, 0.3, 2), (3, 0.8, 2), (4, 0.1, 2)):
            for house, box, possible in random_boxes(seed, 700, least, most):
                self.check(house, box, possible)

    def test_all_boxes_of_few_hours(self):
        spans = [(low, top) for top in range(3) for low in range(top + 1)]
        for house in (ONE_ROOM, TWO_ROOMS, row_house(list("bac"))):
            there = reached_rows(house, 6)
            for some in product(spans, repeat=len(house)):
                if any(top for _, top in some):
                    possible = [row for row in product(*[range(low, top + 1) for low, top in some]) if row in there]
                    self.check(house, dict(zip(house.rooms(), some)), possible)

    def test_is_possible(self):
        for house, box, possible in random_boxes(5, 60, 0.5, 2):
            for row in ledger_rows(house, 5 if len(house) < 6 else 3):
                self.assertIs(is_possible(house, box, as_ledger(house, row)), row in possible)
        for thing in any_objects() + wrong_ledgers({"a": 1, "b": 1, "c": 0, "d": 0}):
            self.assertIs(is_possible(EXAMPLE, BOX, thing), False)
        self.assertIs(is_possible(EXAMPLE, BOX, {"d": 0, "c": 0, "b": 2, "a": 1}), True)

    def test_tight_rooms_on_no_way(self):
        box = {room: (1, 1) for room in SPIDER.rooms()}
        self.assertEqual(box_fault(SPIDER, box), ("few", "c"))
        box["c"] = (1, 3)
        self.assertEqual(box_fault(SPIDER, box), ("apart", "a1", "a2", "a3"))
        self.assertIsNone(some_ledger(SPIDER, box))
        self.assertEqual(can_light(SPIDER, box), [])
        # With b1 and b2 needed, doors to a3 count for nothing.
        box = {room: (0, 1) for room in SPIDER.rooms()}
        box.update(b1=(1, 1), b2=(1, 1))
        self.assertEqual(needed_rooms(SPIDER, box), ["a1", "a2", "b1", "b2", "c"])
        self.assertIsNone(box_fault(SPIDER, box))
        self.assertEqual(can_light(SPIDER, box), ["a1", "a2", "b1", "b2", "c"])
        self.assertEqual(can_light(SPIDER, {**box, "c": (0, 2)}), ["a1", "a2", "a3", "b1", "b2", "c"])
        self.assertEqual(can_light(SPIDER, {**box, "c": (0, 2), "a3": (0, 2)}), SPIDER.rooms())

    def test_no_room_needed(self):
        box = {"a": (0, 0), "b": (0, 2), "c": (0, 0), "d": (0, 3)}
        self.assertEqual(needed_rooms(EXAMPLE, box), [])
        self.assertIsNone(box_fault(EXAMPLE, box))
        self.assertEqual(sum(some_ledger(EXAMPLE, box).values()), 1)
        self.assertEqual(can_light(EXAMPLE, box), ["b", "d"])
        dark = {"a": (1, 3), "b": (0, 0), "c": (1, 1), "d": (0, 3)}
        self.assertEqual(box_fault(EXAMPLE, dark), ("few", "b"))
        self.assertEqual(can_light(EXAMPLE, {**dark, "c": (0, 1)}), ["a"])

    def test_few_rooms(self):
        self.assertEqual(some_ledger(ONE_ROOM, {"a": (0, 5)}), {"a": 1})
        self.assertEqual(some_ledger(ONE_ROOM, {"a": (3, 5)}), {"a": 3})
        self.assertEqual(needed_rooms(ONE_ROOM, {"a": (1, 1)}), ["a"])
        self.assertEqual(some_ledger(TWO_ROOMS, {"a": (2, 5), "b": (0, 1)}), {"a": 2, "b": 0})
        self.assertEqual(some_ledger(TWO_ROOMS, {"a": (2, 5), "b": (1, 1)}), {"a": 2, "b": 1})

    def test_wiped(self):
        told = wiped(EXAMPLE, {"d": 1, "c": 0, "b": 2, "a": 1}, ["c", "a"], 7)
        self.assertEqual(list(told.items()), [("a", (0, 7)), ("b", (2, 2)), ("c", (0, 7)), ("d", (1, 1))])
        self.assertEqual({type(pair) for pair in told.values()}, {tuple})
        self.assertEqual(wiped(ONE_ROOM, {"a": 4}, [], 1), {"a": (4, 4)})
        self.assertEqual(wiped(ONE_ROOM, {"a": 4}, ("a",), 1), {"a": (0, 1)})
        for row in ledger_rows(EXAMPLE, 5):
            ledger = as_ledger(EXAMPLE, row)
            for some in ([], ["b"], ["a", "d"]):
                self.assertTrue(is_possible(EXAMPLE, wiped(EXAMPLE, ledger, some, 5), ledger) or not
                                holds(EXAMPLE, ledger))

    def test_bad_box(self):
        wrong = wrong_boxes(BOX)
        for call in (needed_rooms, box_fault, some_ledger, can_light):
            self.check_things(BadBox, wrong, call, EXAMPLE, None)
        self.check_things(BadBox, wrong, is_possible, EXAMPLE, None, RIGHT)

    def test_errors_of_wiped(self):
        self.check_things(BadLedger, wrong_ledgers(RIGHT), wiped, EXAMPLE, None, ["zz"], 0)
        for thing in any_objects():
            self.check_error(BadSome, {"index": 2}, wiped, EXAMPLE, RIGHT, ["a", "b", thing], 0)
            if not isinstance(thing, (list, tuple)):
                self.check_error(BadSome, {"index": 0}, wiped, EXAMPLE, RIGHT, thing, 0)
            if type(thing) is not int or thing < 1:
                self.check_error(BadNumber, {"thing": thing}, wiped, EXAMPLE, RIGHT, ["a"], thing)
                self.check_error(BadNumber, {"thing": thing}, wiped, EXAMPLE, RIGHT, [], thing)
        self.check_error(BadSome, {"index": 1}, wiped, EXAMPLE, RIGHT, ["a", "a"], 1)

    def test_kept(self):
        box = {"d": (0, 1), "b": (1, 3), "a": (0, 2), "c": (1, 1)}
        for call in (needed_rooms, box_fault, some_ledger, can_light):
            self.check_kept(call, EXAMPLE, box)
            self.check_kept(call, EXAMPLE, {**box, "b": (0, 0), "a": (1, 1)})
        self.check_kept(is_possible, EXAMPLE, box, {"c": 1, "b": 2, "a": 1, "d": 0})
        self.check_kept(wiped, EXAMPLE, {"c": 1, "b": 2, "a": 1, "d": 0}, ["c", "a"], 3)

    def test_great_ones(self):
        for house in great_houses(30):
            near = rows(house)
            ends = [room for room in near if len(near[room]) == 1]
            box = {room: (0, 100) if room not in ends else (1, 100) for room in near}
            self.assertEqual(needed_rooms(house, box), house.rooms())
            told = some_ledger(house, box)
            self.assertTrue(is_possible(house, box, told))
            self.assertEqual(can_light(house, box), house.rooms())
            self.assertEqual(can_light(house, {room: (0, 100) for room in near}), house.rooms())
            tight = {room: (1, max(1, len(near[room]) - 1)) for room in near}
            fault = box_fault(house, tight)
            self.assertEqual(some_ledger(house, tight) is None, fault is not None)
            if fault is not None:
                self.assertEqual(fault[0], "apart")
                self.assertFalse(lie_on_one_way(house, fault[1:]))
                first = {**box, **{room: tight[room] for room in fault[1:]}}
                self.assertEqual(box_fault(house, first), fault)

    def test_great_ones_of_known_sums(self):
        row, star = great_houses(30)[:2]
        self.assertEqual(some_ledger(row, {room: (0 if room != "r0" else 1, 9) for room in row.rooms()})["r0"], 1)
        told = some_ledger(row, {room: (1, 100) for room in row.rooms()})
        self.assertEqual(set(told.values()), {1})
        told = some_ledger(star, {room: (1, 100) for room in star.rooms()})
        self.assertEqual((told["r0"], sum(told.values())), (28, 57))
        arms = three_arms((9, 10, 10))
        told = some_ledger(arms, {room: (1, 100) for room in arms.rooms()})
        self.assertEqual(sum(told.values()), 2 * 29 - (9 + 9 + 1))
        # The longest way goes through y and z, but z's rooms can never have fewer hours than doors.
        told = some_ledger(arms, {room: (2 if room[0] == "z" else 1, 100) for room in arms.rooms()})
        self.assertEqual(sum(told.values()), 2 * 29 + 1 - (8 + 9 + 1))


if __name__ == "__main__":
    unittest.main()
