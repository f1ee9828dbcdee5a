"""[105] to [107], and [116] on them: entries and stamps."""

import unittest
from itertools import product

from lamplight.entrystamps import entries, first_by_entries, lasts_by_stamps, stamps, unused_door
from lamplight.errors import BadCarrying, BadMarks
from tests.brute import (EXAMPLE, ONE_ROOM, SPIDER, TWO_ROOMS, any_objects, great_houses, row_house, rows, small_houses,
                         star_house, walks)
from tests.checks import Checks

CARRYING = ["a", "b", "b", "c", "b", "d"]
BY_MARKS = (unused_door, first_by_entries, lasts_by_stamps)


def all_marks(house):
    near = rows(house)
    lots = product(*[[None] + near[room] for room in house.rooms()])
    return [dict(zip(house.rooms(), row)) for row in lots]


def lighting(house, most):
    """All carryings of at most so many hours that light all rooms."""
    told = [walk for hours in range(1, most + 1) for walk in walks(house, hours)]
    return [walk for walk in told if len(set(walk)) == len(house)]


def entries_of(house, walk):
    told = {}
    for room in house.rooms():
        at = walk.index(room)
        told[room] = walk[at - 1] if at else None
    return told


def stamps_of(house, walk):
    told = {}
    for room in house.rooms():
        left = [walk[at + 1] for at in range(len(walk) - 1) if walk[at] == room != walk[at + 1]]
        told[room] = left[-1] if left else None
    return told


def wrong_marks(house, marks):
    """Things that are no marks of a house by marks of it."""
    told = any_objects()
    for room in marks:
        told += [{**marks, room: wrong} for wrong in (room, "zz", 1, True, [], ["b"], ())]
        told.append({name: marks[name] for name in marks if name != room})
        told.append({name if name != room else "zz": marks[name] for name in marks})
        far = [other for other in house.rooms() if other not in rows(house)[room]]
        told += [{**marks, room: other} for other in far]
    return told + [{**marks, "zz": None}, list(marks.items())]


class EntryStampsTest(Checks):
    def test_example(self):
        self.assertEqual(entries(EXAMPLE, CARRYING), {"a": None, "b": "a", "c": "b", "d": "b"})
        self.assertEqual(stamps(EXAMPLE, CARRYING), {"a": "b", "b": "d", "c": "b", "d": None})

    def test_all_carryings(self):
        for house in small_houses() + [star_house(list("cabde"))]:
            many = len(house)
            # So many hours are enough for each entries and stamps that some carrying has.
            walked = lighting(house, min(2 * many, 9))
            firsts = {}
            lasts = {}
            for walk in walked:
                told = (entries(house, walk), stamps(house, list(walk)))
                self.assertEqual(told, (entries_of(house, walk), stamps_of(house, walk)))
                self.assertEqual([list(each) for each in told], [house.rooms()] * 2)
                firsts.setdefault(tuple(told[0].values()), set()).add(walk[0])
                lasts.setdefault(tuple(told[1].values()), set()).add(walk[-1])
            for marks in all_marks(house):
                key = tuple(marks.values())
                there = sorted(lasts.get(key, set()))
                self.assertEqual(first_by_entries(house, marks), min(firsts.get(key, [None])))
                self.assertEqual(lasts_by_stamps(house, marks), there, (house.doors(), marks))
            self.assertTrue(all(len(each) == 1 for each in firsts.values()))

    def test_just_one(self):
        for house in small_houses() + [star_house(list("cabde")), row_house(list("bdaec"))]:
            near = rows(house)
            for marks in all_marks(house):
                unused = [(one, other) for one, other in house.doors() if marks[one] != other and marks[other] != one]
                self.assertEqual(unused_door(house, marks), unused[0] if unused else None)
                kept = [room for room in marks if marks[room] is None]
                first = first_by_entries(house, marks)
                self.assertEqual(first is None, bool(unused) or not kept)
                self.assertEqual(first, kept[0] if kept and not unused else None)
                told = lasts_by_stamps(house, marks)
                inner = not unused and kept and len(near[kept[0]]) > 1
                self.assertEqual(told == [], bool(unused or inner))
                if told and not kept:
                    self.assertEqual(len(told), 2)
                    self.assertEqual([marks[room] for room in told], told[::-1])

    def test_few_rooms(self):
        self.assertEqual([call(ONE_ROOM, ["a", "a"]) for call in (entries, stamps)], [{"a": None}] * 2)
        self.assertEqual([call(ONE_ROOM, {"a": None}) for call in BY_MARKS], [None, "a", ["a"]])
        self.assertEqual([call(TWO_ROOMS, {"a": "b", "b": None}) for call in BY_MARKS], [None, "b", ["b"]])
        self.assertEqual([call(TWO_ROOMS, {"a": "b", "b": "a"}) for call in BY_MARKS], [None, None, ["a", "b"]])
        self.assertEqual([call(TWO_ROOMS, {"a": None, "b": None}) for call in BY_MARKS], [("a", "b"), None, []])
        self.assertEqual(lasts_by_stamps(EXAMPLE, {"a": "b", "b": None, "c": "b", "d": "b"}), [])

    def test_errors(self):
        for call in (entries, stamps):
            for thing in any_objects():
                if not isinstance(thing, (list, tuple)) or not thing:
                    self.check_error(BadCarrying, {"index": 0}, call, EXAMPLE, thing)
                self.check_error(BadCarrying, {"index": 2}, call, EXAMPLE, ["a", "b", thing, None])
            self.check_error(BadCarrying, {"index": 3}, call, EXAMPLE, ["a", "b", "c", "d"])
            for dark in (["a"], ["a", "b", "c"], ("b", "c", "b", "d", "d"), ["a", "b", "b", "a", "b", "d"]):
                self.check_error(BadCarrying, {"index": 0}, call, EXAMPLE, dark)
        for call in BY_MARKS:
            self.check_things(BadMarks, wrong_marks(EXAMPLE, stamps(EXAMPLE, CARRYING)), call, EXAMPLE, None)
            self.check_things(BadMarks, [thing for thing in any_objects() if thing != {"a": None}], call, ONE_ROOM, None)

    def test_kept(self):
        for call in (entries, stamps):
            self.check_kept(call, EXAMPLE, CARRYING)
        marks = {"d": "b", "c": "b", "a": "b", "b": "a"}
        for call in BY_MARKS:
            self.check_kept(call, EXAMPLE, marks)

    def test_great_ones(self):
        for house in great_houses(40) + [SPIDER]:
            near = rows(house)
            first = house.rooms()[0]
            walk = [first]
            left = {room: list(near[room]) for room in near}
            came = {}
            # There and back through each door, the door by which a room was come to last.
            while left[walk[-1]]:
                room = walk[-1]
                ahead = [other for other in left[room] if other != came.get(room)] or left[room]
                other = ahead[0]
                left[room].remove(other)
                if other not in came and other != first:
                    came[other] = room
                walk += [other, other] if len(walk) < 300 else [other]
            self.assertEqual(entries(house, walk), {room: came.get(room) for room in house.rooms()})
            self.assertEqual(stamps(house, walk), stamps_of(house, walk))
            self.assertEqual(first_by_entries(house, entries(house, walk)), first)
            self.assertIn(walk[-1], lasts_by_stamps(house, stamps(house, walk)))
            self.assertIsNone(unused_door(house, stamps(house, walk)))


if __name__ == "__main__":
    unittest.main()
