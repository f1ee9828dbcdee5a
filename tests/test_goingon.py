"""first_carrying of [17], and [18]: going on."""

import unittest
from itertools import product

from lamplight.errors import BadBegun, BadLedger
from lamplight.goingon import first_carrying, lost_at, next_rooms
from lamplight.onelaw import claim_fault, holds
from tests.brute import (EXAMPLE, ONE_ROOM, SPIDER, any_objects, as_ledger, by_ledgers, five_room_houses, great_houses,
                         hours_row, ledger_rows, row_house, rows, small_houses, three_arms, walks_to)

RIGHT = {"a": 1, "b": 2, "c": 1, "d": 1}


class GoingOnTest(unittest.TestCase):
    def test_example(self):
        self.assertEqual(first_carrying(EXAMPLE, RIGHT), ["a", "b", "c", "b", "d"])
        self.assertIsNone(first_carrying(EXAMPLE, {**RIGHT, "b": 1}))
        self.assertEqual(next_rooms(EXAMPLE, RIGHT, []), ["a", "c", "d"])
        self.assertEqual(next_rooms(EXAMPLE, RIGHT, ["a", "b"]), ["c", "d"])
        self.assertEqual(next_rooms(EXAMPLE, RIGHT, ["b"]), [])
        self.assertEqual(lost_at(EXAMPLE, RIGHT, ["a", "b", "b"]), 3)
        self.assertEqual(lost_at(EXAMPLE, RIGHT, ["b", "a"]), 1)
        self.assertIsNone(lost_at(EXAMPLE, RIGHT, ["a", "b", "c", "b", "d"]))

    def test_first_carrying(self):
        for house, most in [(house, 7) for house in small_houses()] + [(house, 6) for house in five_room_houses()]:
            there = by_ledgers(house, most)
            for row in ledger_rows(house, most):
                expected = list(min(there[row])) if row in there else None
                self.assertEqual(first_carrying(house, as_ledger(house, row)), expected)

    def test_all_that_is_begun(self):
        cases = [(house, 6 if len(house) < 4 else 5) for house in small_houses()]
        for house, most in cases + [(house, 5) for house in five_room_houses()]:
            there = by_ledgers(house, most)
            begun = [()] + walks_to(house, most)
            for row in ledger_rows(house, most):
                ledger = as_ledger(house, row)
                ahead = {walk[:many] for walk in there.get(row, []) for many in range(len(walk) + 1)}
                for trial in begun:
                    if all(trial.count(room) <= ledger[room] for room in ledger):
                        self.check(house, ledger, trial, ahead)

    def check(self, house, ledger, trial, ahead):
        lost = [many for many in range(len(trial) + 1) if trial[:many] not in ahead]
        self.assertEqual(lost_at(house, ledger, list(trial)), min(lost, default=None), (ledger, trial))
        further = [room for room in house.rooms() if trial + (room,) in ahead]
        self.assertEqual(next_rooms(house, ledger, trial), further, (ledger, trial))

    def test_three_arms_of_two_rooms(self):
        # Here three short rooms can lie on no way, and two on a way that does not begin at the present room.
        ledger = {"a1": 1, "a2": 1, "a3": 2, "b1": 1, "b2": 1, "b3": 1, "c": 2}
        there = by_ledgers(SPIDER, 9)[tuple(ledger.values())]
        ahead = {walk[:many] for walk in there for many in range(len(walk) + 1)}
        for trial in [()] + walks_to(SPIDER, 5):
            if all(trial.count(room) <= ledger[room] for room in ledger):
                self.check(SPIDER, ledger, trial, ahead)
        self.assertEqual(first_carrying(SPIDER, ledger), list(there[0]))
        self.assertEqual(lost_at(SPIDER, {**ledger, "a3": 1}, ["b1"]), 0)

    def test_bad_begun(self):
        for call in (next_rooms, lost_at):
            for thing in any_objects():
                if not isinstance(thing, (list, tuple)):
                    self.check_bad(call, RIGHT, thing, 0)
                if not isinstance(thing, str):
                    self.check_bad(call, RIGHT, [thing], 0)
                self.check_bad(call, RIGHT, ["a", "b", thing, "zz"], 2)
            self.check_bad(call, RIGHT, ["a", "c"], 1)
            self.check_bad(call, RIGHT, ("a", "b", "a"), 2)
            self.check_bad(call, RIGHT, ["b", "b", "b", None], 2)
            self.check_bad(call, {**RIGHT, "b": 0}, ["a", "b"], 1)
            self.check_bad(call, {**RIGHT, "a": 0}, ["a", "b"], 0)
            self.check_bad(call, RIGHT, ["a", "b", "c", "b", "d", "d"], 5)

    def check_bad(self, call, ledger, begun, index):
        with self.assertRaises(BadBegun) as caught:
            call(EXAMPLE, ledger, begun)
        self.assertEqual(caught.exception.index, index)

    def test_bad_ledger_comes_first(self):
        for thing in any_objects() + [{**RIGHT, "b": True}, {**RIGHT, "x": 1}]:
            for call in (first_carrying, lambda *two: next_rooms(*two, 0), lambda *two: lost_at(*two, ["zz"])):
                with self.assertRaises(BadLedger) as caught:
                    call(EXAMPLE, thing)
                self.assertIs(caught.exception.thing, thing)

    def test_what_is_passed_is_not_changed(self):
        ledger = {"d": 1, "b": 2, "c": 1, "a": 1}
        begun = ["a", "b"]
        first_carrying(EXAMPLE, ledger).clear()
        next_rooms(EXAMPLE, ledger, begun).clear()
        lost_at(EXAMPLE, ledger, begun)
        self.assertEqual(next_rooms(EXAMPLE, ledger, begun), ["c", "d"])
        self.assertEqual((list(ledger), list(ledger.values()), begun), (list("dbca"), [1, 2, 1, 1], ["a", "b"]))

    def test_one_room(self):
        self.assertEqual(first_carrying(ONE_ROOM, {"a": 400}), ["a"] * 400)
        self.assertEqual(next_rooms(ONE_ROOM, {"a": 2}, ["a"]), ["a"])
        self.assertEqual(next_rooms(ONE_ROOM, {"a": 2}, ["a", "a"]), [])
        self.assertIsNone(lost_at(ONE_ROOM, {"a": 2}, ["a", "a"]))

    def test_great_ones(self):
        for house in great_houses():
            near = rows(house)
            ledger = {room: max(len(near[room]), 1) for room in house.rooms()}
            ledger[house.rooms()[7]] += 400 - sum(ledger.values())
            told = first_carrying(house, ledger)
            self.assertEqual(len(told), 400)
            self.assertIsNone(claim_fault(house, ledger, told))
            self.assertIsNone(lost_at(house, ledger, told))
            for many in (0, 1, 57, 200, 399):
                self.assertEqual(next_rooms(house, ledger, told[:many])[0], told[many])
            self.assertEqual(next_rooms(house, ledger, told), [])
            far = [room for room in near if ledger[room] == 1 and len(near[room]) == 1][-1]
            wait = [near[far][0]] * ledger[near[far][0]]
            self.assertEqual(lost_at(house, ledger, wait) is None, False)

    def test_a_great_one_lost(self):
        house = three_arms((21, 19, 19))
        ledger = {**{room: 2 for room in house.rooms()}, "m": 3, "x19": 1}
        self.assertTrue(holds(house, ledger))
        begun = ["m"] + [f"x{k}" for k in range(19)] + ["x19", "x20", "x20"]
        self.assertEqual(lost_at(house, ledger, begun), 2)
        self.assertEqual(next_rooms(house, ledger, ["m"]), ["y0", "z0"])
        self.assertEqual(next_rooms(house, ledger, begun), [])

    def test_a_row_can_only_be_gone_along(self):
        house = row_house([f"r{k}" for k in range(60)])
        names = [f"r{k}" for k in range(60)]
        ledger = {room: 1 for room in names}
        self.assertEqual(first_carrying(house, ledger), names)
        self.assertEqual(next_rooms(house, ledger, []), ["r0", "r59"])
        for first, second in product(("r3", "r50"), repeat=2):
            begun = [first] if first == second else [first, house.near(first)[0]]
            self.assertEqual(lost_at(house, ledger, begun), 1)

    def test_the_hours_of_the_brute_force_are_right(self):
        self.assertEqual(hours_row(EXAMPLE, ("a", "b", "b")), (1, 2, 0, 0))


if __name__ == "__main__":
    unittest.main()
