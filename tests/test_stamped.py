"""[108], [114], and [116] on them: stamps and ledgers, and counters with them."""

import random
import unittest
from itertools import product

from lamplight.carryings import is_carrying
from lamplight.entrystamps import stamps
from lamplight.errors import BadCounted, BadLedger, BadMarks
from lamplight.ledgers import ledger_of
from lamplight.stamped import ends_by_all, ends_by_stamps, stamped_carrying
from tests.brute import (EXAMPLE, ONE_ROOM, SPIDER, TWO_ROOMS, any_objects, as_ledger, great_houses, great_ledger, rows,
                         small_houses, star_house)
from tests.checks import Checks, dark_ledgers, wrong_ledgers
from tests.test_doorcounts import COUNTED, LEDGER, counted_by, lit_by_ledgers, wrong_counted
from tests.test_entrystamps import CARRYING, all_marks, stamps_of, wrong_marks

MARKS = {"a": "b", "b": "d", "c": "b", "d": None}
BY_STAMPS = (ends_by_stamps, stamped_carrying)


class StampedTest(Checks):
    def test_example(self):
        self.assertEqual(ends_by_stamps(EXAMPLE, LEDGER, MARKS), [("a", "d"), ("b", "d"), ("c", "d")])
        self.assertEqual(ends_by_all(EXAMPLE, LEDGER, MARKS, COUNTED), [("a", "d")])

    def test_all_carryings(self):
        found = {}
        for house in small_houses() + [star_house(list("cabde"))]:
            marks = all_marks(house)
            most = 8 if len(house) < 5 else 9
            for row, walked in lit_by_ledgers(house, most).items():
                there = {}
                for walk in walked:
                    there.setdefault(tuple(stamps_of(house, walk).values()), set()).add((walk[0], walk[-1]))
                ledger = as_ledger(house, row)
                for each in marks if len(house) < 5 else marks[::5]:
                    pairs = sorted(there.get(tuple(each.values()), set()))
                    self.assertEqual(ends_by_stamps(house, ledger, each), pairs, (house.doors(), ledger, each))
                    self.check_carrying(house, ledger, each, pairs)
                    found[len(pairs)] = found.get(len(pairs), 0) + 1
        self.assertGreater(len(found), 4)

    def check_carrying(self, house, ledger, marks, pairs):
        told = stamped_carrying(house, ledger, marks)
        self.assertEqual(told is None, not pairs)
        if pairs:
            self.assertIs(is_carrying(house, told), True)
            self.assertEqual((ledger_of(house, told), stamps(house, told)), (ledger, marks))
            self.assertIn((told[0], told[-1]), pairs)

    def test_all_together(self):
        dice = random.Random(114)
        found = {}
        for house in small_houses() + [star_house(list("cabde"))]:
            for row, walked in lit_by_ledgers(house, 8).items():
                there = {}
                for walk in walked:
                    key = (tuple(stamps_of(house, walk).values()), tuple(counted_by(house, walk).values()))
                    there.setdefault(key, set()).add((walk[0], walk[-1]))
                ledger = as_ledger(house, row)
                keys = sorted(there, key=str)
                for marked, many in dice.sample(keys, min(len(keys), 12)):
                    # Right ones, and those with another one's stamps or counters.
                    other, more = dice.choice(keys)
                    for key in ((marked, many), (marked, more), (other, many)):
                        pairs = sorted(there.get(key, set()))
                        marks = dict(zip(house.rooms(), key[0]))
                        counted = dict(zip(house.doors(), key[1]))
                        self.assertEqual(ends_by_all(house, ledger, marks, counted), pairs)
                        found[len(pairs)] = found.get(len(pairs), 0) + 1
        self.assertGreater(min(found.get(many, 0) for many in (0, 1, 2)), 20)

    def test_all_marks_and_counters(self):
        """Houses of up to three rooms: all stamps with all counters to four."""
        for house in small_houses():
            if len(house) > 3:
                continue
            for row, walked in lit_by_ledgers(house, 8).items():
                there = {}
                for walk in walked:
                    key = (tuple(stamps_of(house, walk).values()), tuple(counted_by(house, walk).values()))
                    there.setdefault(key, set()).add((walk[0], walk[-1]))
                for marks in all_marks(house):
                    for many in product((1, 2, 3, 4), repeat=len(house) - 1):
                        pairs = sorted(there.get((tuple(marks.values()), many), set()))
                        told = ends_by_all(house, as_ledger(house, row), marks, dict(zip(house.doors(), many)))
                        self.assertEqual(told, pairs)

    def test_few_rooms(self):
        self.assertEqual([call(ONE_ROOM, {"a": 2}, {"a": None}) for call in BY_STAMPS], [[("a", "a")], ["a", "a"]])
        self.assertEqual(ends_by_all(ONE_ROOM, {"a": 2}, {"a": None}, {}), [("a", "a")])
        self.assertEqual(ends_by_stamps(TWO_ROOMS, {"a": 1, "b": 1}, {"a": "b", "b": "a"}), [])
        self.assertEqual(ends_by_stamps(TWO_ROOMS, {"a": 1, "b": 2}, {"a": "b", "b": "a"}), [("b", "b")])
        self.assertEqual(ends_by_stamps(TWO_ROOMS, {"a": 2, "b": 2}, {"a": "b", "b": "a"}),
                         [("a", "a"), ("a", "b"), ("b", "a"), ("b", "b")])

    def test_errors(self):
        for call, more in [(call, []) for call in BY_STAMPS] + [(ends_by_all, [None])]:
            for thing in wrong_ledgers(LEDGER) + dark_ledgers(LEDGER):
                self.check_error(BadLedger, {"thing": thing}, call, EXAMPLE, thing, None, *more)
            for thing in wrong_marks(EXAMPLE, MARKS):
                self.check_error(BadMarks, {"thing": thing}, call, EXAMPLE, LEDGER, thing, *more)
        self.check_things(BadCounted, wrong_counted(COUNTED), ends_by_all, EXAMPLE, LEDGER, MARKS, None)
        self.check_things(BadCounted, [thing for thing in any_objects() if thing != {}],
                          ends_by_all, ONE_ROOM, {"a": 1}, {"a": None}, None)

    def test_kept(self):
        marks = {"d": None, "c": "b", "b": "d", "a": "b"}
        ledger = {"d": 1, "c": 1, "b": 3, "a": 1}
        for call in BY_STAMPS:
            self.check_kept(call, EXAMPLE, ledger, marks)
        self.check_kept(ends_by_all, EXAMPLE, ledger, marks, {("b", "d"): 1, ("b", "c"): 2, ("a", "b"): 1})

    def test_great_ones(self):
        for house in great_houses(40) + [SPIDER]:
            near = rows(house)
            ledger = {room: hours + 2 for room, hours in great_ledger(house, 300).items()}
            leaf = [room for room in near if len(near[room]) == 1][-1]
            # All lead to a leaf, which has no stamp; then it was left again.
            marks = {leaf: None}
            waiting = [leaf]
            for room in waiting:
                for other in near[room]:
                    if other not in marks:
                        marks[other] = room
                        waiting.append(other)
            self.assertEqual(ends_by_stamps(house, ledger, marks), [(room, leaf) for room in near if room != leaf])
            self.check_carrying(house, ledger, marks, ends_by_stamps(house, ledger, marks))
            marks[leaf] = near[leaf][0]
            pairs = ends_by_stamps(house, ledger, marks)
            self.assertEqual(pairs, [(room, last) for room in near for last in sorted((leaf, near[leaf][0]))])
            self.check_carrying(house, ledger, marks, pairs)
            told = stamped_carrying(house, ledger, marks)
            self.assertIn((told[0], told[-1]), ends_by_all(house, ledger, marks, counted_by(house, told)))


if __name__ == "__main__":
    unittest.main()
