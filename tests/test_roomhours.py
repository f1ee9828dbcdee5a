"""[45], and sums_between of [46]: the hours of rooms in boxes that leave none dark."""

import unittest

from lamplight.errors import BadBox, NoRoom, NotPossible
from lamplight.roomhours import room_hours, shortness, sums_between
from tests.brute import EXAMPLE, ONE_ROOM, SPIDER, TWO_ROOMS, great_houses, rows, three_arms
from tests.checks import Checks, no_rooms
from tests.test_boxes import random_boxes, wrong_boxes

TIGHT = {**{room: (1, 1) for room in "acd"}, "b": (1, 2)}
WIDE = {**TIGHT, "b": (1, 4)}


class RoomHoursTest(Checks):
    def test_example(self):
        self.assertEqual(sums_between(EXAMPLE, TIGHT), (5, 5))
        self.assertEqual(shortness(EXAMPLE, TIGHT), (["b"], ["b"]))
        self.assertEqual(room_hours(EXAMPLE, WIDE, "b"), (2, 4))
        self.assertEqual(shortness(EXAMPLE, WIDE), ([], ["b"]))

    def check(self, house, box, possible):
        near = rows(house)
        for at, room in enumerate(house.rooms()):
            hours = {row[at] for row in possible}
            told = room_hours(house, box, room)
            self.assertIs(type(told), tuple)
            self.assertEqual(told, (min(hours), max(hours)), (house.doors(), box))
            self.assertEqual(len(hours), told[1] - told[0] + 1)
        short = [{room for at, room in enumerate(near) if row[at] == len(near[room]) - 1} for row in possible]
        told = shortness(house, box)
        self.assertIs(type(told), tuple)
        self.assertEqual(told, (sorted(set.intersection(*short)), sorted(set.union(*short))), (house.doors(), box))
        sums = {sum(row) for row in possible}
        self.assertEqual(sums_between(house, box), (min(sums), max(sums)))
        self.assertEqual(len(sums), max(sums) - min(sums) + 1)

    def test_all_ledgers_of_boxes(self):
        for seed, most in ((11, 3), (12, 2), (13, 4)):
            for house, box, possible in random_boxes(seed, 700, 0, most):
                if possible:
                    self.check(house, box, possible)
                else:
                    self.check_refused(NotPossible, {}, house, box, house.rooms()[0])

    def check_refused(self, error, kept, house, box, room):
        self.check_error(error, kept, room_hours, house, box, room)
        self.check_error(error, kept, shortness, house, box)
        self.check_error(error, kept, sums_between, house, box)

    def test_tight_rooms_and_others_on_their_way(self):
        box = {room: (1, 3) for room in SPIDER.rooms()}
        box.update(a1=(1, 1), a2=(1, 1))
        self.assertEqual(shortness(SPIDER, box), (["a1", "a2"], ["a1", "a2", "c"]))
        self.assertEqual(room_hours(SPIDER, box, "a3"), (2, 3))
        self.assertEqual(room_hours(SPIDER, box, "c"), (2, 3))
        self.assertEqual(room_hours(SPIDER, {**box, "a1": (1, 2)}, "a3"), (1, 3))
        self.assertEqual(sums_between(SPIDER, box), (9, 17))
        self.assertEqual(room_hours(SPIDER, {**box, "c": (3, 3)}, "c"), (3, 3))
        self.assertEqual(sums_between(SPIDER, {**box, "c": (3, 3)}), (10, 17))
        self.check_refused(NotPossible, {}, SPIDER, {**box, "a3": (1, 1)}, "a1")

    def test_few_rooms(self):
        self.assertEqual(room_hours(ONE_ROOM, {"a": (1, 5)}, "a"), (1, 5))
        self.assertEqual(shortness(ONE_ROOM, {"a": (1, 5)}), ([], []))
        self.assertEqual(sums_between(ONE_ROOM, {"a": (2, 5)}), (2, 5))
        box = {"a": (1, 5), "b": (2, 2)}
        self.assertEqual([room_hours(TWO_ROOMS, box, room) for room in "ab"], [(1, 5), (2, 2)])
        self.assertEqual(shortness(TWO_ROOMS, box), ([], []))
        self.assertEqual(sums_between(TWO_ROOMS, box), (3, 7))

    def test_bad_box(self):
        wrong = wrong_boxes(TIGHT) + [{**TIGHT, room: (0, 5)} for room in TIGHT]
        # A least of 0 is told ahead of a box in which no ledger is possible.
        wrong.append({**TIGHT, "a": (0, 1), "b": (1, 1)})
        for thing in wrong:
            self.check_refused(BadBox, {"thing": thing}, EXAMPLE, thing, "zz")

    def test_other_errors(self):
        for room in ("zz", None, "b"):
            self.check_refused(NotPossible, {}, EXAMPLE, {**TIGHT, "b": (1, 1)}, room)
        self.check_things(NoRoom, no_rooms(), room_hours, EXAMPLE, TIGHT, None)

    def test_kept(self):
        box = {"d": (1, 1), "b": (1, 3), "a": (1, 2), "c": (1, 1)}
        self.check_kept(room_hours, EXAMPLE, box, "b")
        self.check_kept(shortness, EXAMPLE, box)
        self.check_kept(sums_between, EXAMPLE, box)

    def test_great_ones(self):
        for house in great_houses(30):
            near = rows(house)
            box = {room: (1, 100) for room in near}
            inner = [room for room in near if len(near[room]) > 1]
            self.assertEqual(shortness(house, box), ([], inner))
            least, most = sums_between(house, box)
            self.assertTrue(58 - len(inner) <= least < 58)
            self.assertEqual(most, 3000)
            for room in near:
                self.assertEqual(room_hours(house, box, room), (max(1, len(near[room]) - 1), 100))
            tight = {**box, inner[0]: (1, len(near[inner[0]]) - 1)}
            self.assertEqual(shortness(house, tight)[0], inner[:1])

    def test_great_ones_of_known_sums(self):
        row, star = great_houses(30)[:2]
        self.assertEqual(sums_between(row, {room: (1, 100) for room in row.rooms()}), (30, 3000))
        self.assertEqual(sums_between(star, {room: (1, 100) for room in star.rooms()}), (57, 3000))
        arms = three_arms((9, 10, 10))
        box = {room: (1, 100) for room in arms.rooms()}
        self.assertEqual(sums_between(arms, box)[0], 2 * 29 - (9 + 9 + 1))
        hard = {room: (2 if room[0] == "z" else 1, 100) for room in arms.rooms()}
        self.assertEqual(sums_between(arms, hard)[0], 2 * 29 + 1 - (8 + 9 + 1))
        box["x7"] = (1, 1)
        self.assertEqual(sums_between(arms, box)[0], 2 * 29 - (8 + 9 + 1))
        # One tight room is worth more than all gain rooms of the others.
        alone = {**{room: (2 if room[0] == "x" else 1, 100) for room in arms.rooms()}, "x7": (1, 1)}
        self.assertEqual(sums_between(arms, alone)[0], 2 * 29 + 1 - (1 + 9 + 1))
        self.assertEqual(len(shortness(arms, box)[1]), 8 + 9 + 9 + 1)
        box["y8"] = (1, 1)
        self.assertEqual(len(shortness(arms, box)[1]), 8 + 9 + 1)
        self.assertEqual(room_hours(arms, box, "z0"), (2, 100))


if __name__ == "__main__":
    unittest.main()
