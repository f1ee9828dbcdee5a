"""[6], [19], [20] and judge_fault of [23]: lighters and judges."""

import unittest

from lamplight.errors import BadJudge, BadLedger, BadLighter, BadNumber, LampError
from lamplight.goingon import first_carrying, lost_at, next_rooms
from lamplight.houses import beside
from lamplight.ledgers import is_ledger
from lamplight.lighters import beat_near, judge_fault, run_lighter
from lamplight.onelaw import holds, lacking_rooms
from tests.brute import (EXAMPLE, ONE_ROOM, TWO_ROOMS, any_objects, as_ledger, five_room_houses, great_houses,
                         ledger_rows, no_functions, rows, small_houses, walk_between)

RIGHT = {"a": 1, "b": 2, "c": 1, "d": 1}


class Lost(Exception):
    pass


def right_lighter(house, ledger):
    return lambda rooms, left: next_rooms(house, ledger, rooms)[0]


def fixed(rooms_to_tell):
    """A lighter that tells a row of things, hour by hour."""
    return lambda rooms, left: rooms_to_tell[len(rooms)]


class RunLighterTest(unittest.TestCase):
    def test_done(self):
        for house in small_houses():
            for row in ledger_rows(house, 5):
                ledger = as_ledger(house, row)
                if holds(house, ledger):
                    told = run_lighter(house, ledger, right_lighter(house, ledger))
                    self.assertEqual(told, (first_carrying(house, ledger), "done"))
                    self.assertIs(type(told), tuple)
                    self.assertIs(type(told[0]), list)

    def test_lost(self):
        for trial in (["b"], ["a", "b", "b"], ["c", "b", "b"]):
            self.assertEqual(run_lighter(EXAMPLE, RIGHT, fixed(trial)), (trial, "lost"))
        self.assertEqual(run_lighter(EXAMPLE, {**RIGHT, "b": 1}, fixed(["a"])), (["a"], "lost"))
        self.assertEqual(run_lighter(TWO_ROOMS, {"a": 2, "b": 1}, fixed(["a", "b", "a"])), (["a", "b", "a"], "done"))
        self.assertEqual(run_lighter(EXAMPLE, {**RIGHT, "b": 3}, fixed(["a", "a"])), (["a"], "odd"))

    def test_odd(self):
        for ahead in ([], ["a"], ["a", "b"]):
            for thing in any_objects() + [["b"], ("c",), {"b": 1}]:
                self.assertEqual(run_lighter(EXAMPLE, RIGHT, fixed(ahead + [thing])), (ahead, "odd"))
        for trial in (["a", "a"], ["a", "c"], ["a", "b", "a"], ["c", "b", "d", "a"]):
            self.assertEqual(run_lighter(EXAMPLE, RIGHT, fixed(trial)), (trial[:-1], "odd"))
        self.assertEqual(run_lighter(EXAMPLE, {"a": 0, "b": 1, "c": 1, "d": 0}, fixed(["a"])), ([], "odd"))
        self.assertEqual(run_lighter(EXAMPLE, {**RIGHT, "b": 1}, fixed(["zz"])), ([], "odd"))

    def test_all_lighters_of_a_few_hours(self):
        for house in five_room_houses():
            for at, row in enumerate(ledger_rows(house, 6)):
                ledger = as_ledger(house, row)
                near = rows(house)

                def lighter(rooms, left):
                    # Lost or odd now and then, but alike whenever it is asked alike.
                    beside_it = near[rooms[-1]] + [rooms[-1]] if rooms else house.rooms()
                    return (beside_it + house.rooms())[(at + 3 * len(rooms)) % (len(beside_it) + 1)]

                self.assertEqual(run_lighter(house, ledger, lighter), self.expected(house, ledger, lighter))

    def expected(self, house, ledger, lighter):
        near = rows(house)
        rooms = []
        while len(rooms) < sum(ledger.values()):
            told = lighter(tuple(rooms), None)
            if rooms and told not in near[rooms[-1]] + [rooms[-1]] or rooms.count(told) >= ledger[told]:
                return (rooms, "odd")
            rooms = rooms + [told]
            if lost_at(house, ledger, rooms) is not None:
                return (rooms, "lost")
        return (rooms, "done")

    def test_what_it_is_handed(self):
        asked = []

        def lighter(rooms, left):
            asked.append((rooms, list(left.items())))
            self.assertIs(type(rooms), tuple)
            self.assertIs(type(left), dict)
            left.clear()
            return ["a", "b", "c", "b", "d"][len(rooms)]

        ledger = {"d": 1, "c": 1, "b": 2, "a": 1}
        self.assertEqual(run_lighter(EXAMPLE, ledger, lighter)[1], "done")
        self.assertEqual(asked, [
            ((), [("a", 1), ("b", 2), ("c", 1), ("d", 1)]),
            (("a",), [("a", 0), ("b", 2), ("c", 1), ("d", 1)]),
            (("a", "b"), [("a", 0), ("b", 1), ("c", 1), ("d", 1)]),
            (("a", "b", "c"), [("a", 0), ("b", 1), ("c", 0), ("d", 1)]),
            (("a", "b", "c", "b"), [("a", 0), ("b", 0), ("c", 0), ("d", 1)]),
        ])
        self.assertEqual(list(ledger.items()), [("d", 1), ("c", 1), ("b", 2), ("a", 1)])

    def test_an_error_goes_through(self):
        def lighter(rooms, left):
            if len(rooms) == 2:
                raise Lost("dark here")
            return ["a", "b"][len(rooms)]

        with self.assertRaises(Lost):
            run_lighter(EXAMPLE, RIGHT, lighter)
        with self.assertRaises(LampError):
            run_lighter(EXAMPLE, RIGHT, lambda rooms, left: beside(EXAMPLE, "zz"))

    def test_errors(self):
        for thing in no_functions():
            with self.assertRaises(BadLighter) as caught:
                run_lighter(EXAMPLE, RIGHT, thing)
            self.assertIs(caught.exception.thing, thing)
        for thing in any_objects():
            with self.assertRaises(BadLedger) as caught:
                run_lighter(EXAMPLE, thing, None)
            self.assertIs(caught.exception.thing, thing)

    def test_great_ones(self):
        for house in great_houses():
            near = rows(house)
            ledger = {room: max(len(near[room]), 1) for room in house.rooms()}
            ledger[house.rooms()[9]] += 400 - sum(ledger.values())
            first = first_carrying(house, ledger)
            self.assertEqual(run_lighter(house, ledger, fixed(first)), (first, "done"))


class NearSightTest(unittest.TestCase):
    def check(self, reach, lighter):
        house, ledger, carrying = told = beat_near(reach, lighter)
        self.assertIs(type(told), tuple)
        self.assertIs(type(carrying), list)
        self.assertLessEqual(len(house), 2 * reach + 5)
        self.assertTrue(is_ledger(house, ledger))
        self.assertEqual(list(ledger), house.rooms())
        self.assertIsNone(lost_at(house, ledger, carrying[:1]))
        self.assertEqual(self.rest(house, ledger, reach, lighter, carrying[:1]), carrying)
        again = beat_near(reach, lighter)
        self.assertEqual(again, told)
        self.assertIsNot(again[1], ledger)

    def rest(self, house, ledger, reach, lighter, rooms):
        near = rows(house)
        while lost_at(house, ledger, rooms) is None:
            self.assertLess(len(rooms), sum(ledger.values()), "the lighter was not beaten")
            left = {
                room: ledger[room] - rooms.count(room) for room in house.rooms()
                if len(walk_between(house, rooms[-1], room)) <= reach + 1
            }
            told = lighter(tuple(rooms), left)
            allowed = near[rooms[-1]] + [rooms[-1]]
            if told not in allowed or rooms.count(told) >= ledger[told]:
                return rooms
            rooms = rooms + [told]
        return rooms

    def test_it_is_always_beaten(self):
        for reach in range(11):
            for at in range(7):
                self.check(reach, lambda rooms, left: sorted(left)[at % len(left)])
                self.check(reach, lambda rooms, left: sorted(left)[-1 - at % len(left)])
            self.check(reach, lambda rooms, left: rooms[-1])
            for thing in ("zz", None, 3, ["a"], EXAMPLE):
                self.check(reach, lambda rooms, left: thing)
            for arm in "abm":
                self.check(reach, lambda rooms, left: arm if arm == "m" else arm + str(len(rooms)))

    def test_those_who_count_are_beaten_too(self):
        def most_left(rooms, left):
            return max(left, key=lambda room: (left[room], room))

        def least_left(rooms, left):
            return min([room for room in left if left[room]], key=lambda room: (left[room], room), default="zz")

        for reach in range(11):
            self.check(reach, most_left)
            self.check(reach, least_left)

    def test_what_it_is_handed(self):
        for reach in range(11):
            asked = []

            def lighter(rooms, left):
                asked.append((rooms, list(left)))
                left.clear()
                return None

            house, ledger, carrying = beat_near(reach, lighter)
            self.assertEqual(len(asked), 1)
            self.assertEqual(asked[0][0], tuple(carrying))
            within = [r for r in house.rooms() if len(walk_between(house, carrying[0], r)) <= reach + 1]
            self.assertEqual(asked[0][1], within)
            self.assertTrue(is_ledger(house, ledger))

    def test_an_error_goes_through(self):
        def lighter(rooms, left):
            raise Lost("dark here")

        with self.assertRaises(Lost):
            beat_near(2, lighter)

    def test_errors(self):
        for thing in any_objects() + [-1, -7, True, False]:
            if thing not in (0, 1, 7, 10 ** 20) or isinstance(thing, bool):
                with self.assertRaises(BadNumber) as caught:
                    beat_near(thing, None)
                self.assertIs(caught.exception.thing, thing)
        for thing in no_functions():
            with self.assertRaises(BadLighter) as caught:
                beat_near(0, thing)
            self.assertIs(caught.exception.thing, thing)


class JudgeTest(unittest.TestCase):
    def test_right_ones(self):
        for house in small_houses() + five_room_houses():
            self.assertIsNone(judge_fault(house, lambda ledger: holds(house, ledger), 5))

    def test_all_that_are_wrong_once(self):
        for house in (TWO_ROOMS, EXAMPLE):
            for row in ledger_rows(house, 4):
                wrong = as_ledger(house, row)

                def judge(ledger):
                    return holds(house, ledger) != (ledger == wrong)

                told = judge_fault(house, judge, 4)
                self.assertEqual(list(told.items()), list(wrong.items()))
                self.assertEqual(judge_fault(house, judge, 3), wrong if sum(row) < 4 else None)

    def test_the_order_in_which_it_is_asked(self):
        for house in small_houses():
            asked = []

            def judge(ledger):
                asked.append(tuple(ledger.items()))
                told = holds(house, ledger)
                ledger.clear()
                return told

            self.assertIsNone(judge_fault(house, judge, 4))
            self.assertEqual(asked, [tuple(as_ledger(house, row).items()) for row in ledger_rows(house, 4)])
            asked.clear()
            first = as_ledger(house, ledger_rows(house, 4)[0])
            self.assertEqual(judge_fault(house, lambda ledger: asked.append(0), 4), first)
            self.assertEqual(asked, [0])

    def test_what_is_no_truth(self):
        for thing in any_objects():
            if thing is not True:
                def judge(ledger):
                    return thing if ledger == RIGHT else holds(EXAMPLE, ledger)

                self.assertEqual(judge_fault(EXAMPLE, judge, 5), RIGHT)
                self.assertIsNone(judge_fault(EXAMPLE, judge, 4))
        lacks = {"a": 1, "b": 1, "c": 1, "d": 1}
        for thing in (0, None, "", [], 1):
            self.assertEqual(judge_fault(EXAMPLE, lambda x: thing if x == lacks else holds(EXAMPLE, x), 4), lacks)

    def test_one_that_looks_at_rooms_two_by_two(self):
        def judge(ledger):
            lit = [room for room in ledger if ledger[room]]
            if any(not ledger[r] for one in lit for o in lit for r in walk_between(EXAMPLE, one, o)):
                return False
            return not lacking_rooms(EXAMPLE, ledger)

        self.assertIsNone(judge_fault(EXAMPLE, judge, 5))

    def test_no_hours(self):
        self.assertIsNone(judge_fault(EXAMPLE, lambda ledger: None, 0))
        self.assertEqual(judge_fault(ONE_ROOM, lambda ledger: ledger["a"] < 3, 9), {"a": 3})
        self.assertIsNone(judge_fault(ONE_ROOM, lambda ledger: True, 400))

    def test_an_error_goes_through(self):
        def judge(ledger):
            if ledger["b"] == 2:
                raise Lost("no word")
            return holds(EXAMPLE, ledger)

        with self.assertRaises(Lost):
            judge_fault(EXAMPLE, judge, 3)
        self.assertIsNone(judge_fault(EXAMPLE, judge, 1))

    def test_errors(self):
        for thing in no_functions():
            with self.assertRaises(BadJudge) as caught:
                judge_fault(EXAMPLE, thing, None)
            self.assertIs(caught.exception.thing, thing)
        for thing in any_objects() + [-1, True, False]:
            if thing not in (0, 1, 7, 10 ** 20) or isinstance(thing, bool):
                with self.assertRaises(BadNumber) as caught:
                    judge_fault(EXAMPLE, lambda ledger: True, thing)
                self.assertIs(caught.exception.thing, thing)

    def test_five_rooms_and_nine_hours(self):
        for house in five_room_houses():
            asked = []

            def judge(ledger):
                asked.append(1)
                return holds(house, ledger)

            self.assertIsNone(judge_fault(house, judge, 9))
            self.assertEqual(len(asked), 2001)

    def test_a_great_house_is_asked_till_it_is_wrong(self):
        for house in great_houses():
            last = house.rooms()[-1]
            self.assertEqual(judge_fault(house, lambda ledger: ledger[last] < 50, 400)[last], 50)


if __name__ == "__main__":
    unittest.main()
