"""[14], [15], [16] and claim_fault of [17]: the rule."""

import unittest
from itertools import product

from lamplight.errors import BadLedger
from lamplight.houses import House
from lamplight.ledgers import lit_rooms
from lamplight.onelaw import claim_fault, holds, is_paper, lacking_rooms, paper_of, short_rooms
from tests.brute import (EXAMPLE, ONE_ROOM, SPIDER, TWO_ROOMS, any_objects, as_ledger, by_ledgers, five_room_houses,
                         great_houses, ledger_rows, papers, reached_rows, rows, row_house, small_houses, star_house,
                         three_arms)

RIGHT = {"a": 1, "b": 2, "c": 1, "d": 1}


class RuleTest(unittest.TestCase):
    def test_example(self):
        self.assertIs(holds(EXAMPLE, RIGHT), True)
        self.assertEqual(short_rooms(EXAMPLE, RIGHT), ["b"])
        self.assertEqual(lacking_rooms(EXAMPLE, RIGHT), [])
        self.assertIsNone(paper_of(EXAMPLE, RIGHT))
        self.assertEqual(paper_of(EXAMPLE, {**RIGHT, "b": 1}), ("lacks", "b"))
        self.assertEqual(lacking_rooms(EXAMPLE, {**RIGHT, "b": 1}), ["b"])
        self.assertEqual(paper_of(EXAMPLE, {"a": 0, "b": 0, "c": 1, "d": 1}), ("dark", "c", "b", "d"))

    def test_short_and_lacking(self):
        for house in small_houses():
            near = rows(house)
            for row in ledger_rows(house, 5):
                ledger = as_ledger(house, row)
                less = {r: len([o for o in near[r] if ledger[o]]) - 1 for r in house.rooms() if ledger[r]}
                self.assertEqual(lacking_rooms(house, ledger), [r for r in less if ledger[r] < less[r]])
                self.assertEqual(short_rooms(house, ledger), [r for r in less if ledger[r] == less[r]])

    def test_all_ledgers_of_a_few_hours(self):
        for house in small_houses():
            self.check_all(house, 7, set(by_ledgers(house, 7)))
        for house in five_room_houses():
            self.check_all(house, 6, set(by_ledgers(house, 6)))

    def check_all(self, house, most, there):
        for row in ledger_rows(house, most):
            ledger = as_ledger(house, row)
            self.assertIs(holds(house, ledger), row in there, (house.doors(), row))
            self.check_papers(house, ledger, row in there)

    def check_papers(self, house, ledger, there):
        told = paper_of(house, ledger)
        expected = papers(house, ledger)
        self.assertEqual(told is None, there)
        self.assertEqual(not expected, there)
        if told is not None:
            self.assertIs(type(told), tuple)
            first = [paper for paper in expected if paper[0] == expected[0][0]]
            self.assertEqual(told, min(first))
            self.assertTrue(all(is_paper(house, ledger, paper) for paper in expected))
            self.assertTrue(all(is_paper(house, ledger, list(paper)) for paper in expected))

    def test_the_first_of_several_lacking_rooms(self):
        doors = [("y", "x")] + [(room, room + at) for room in "xy" for at in "012"]
        house = House([far for _, far in doors] + ["y"], doors)
        ledger = {room: 1 for room in house.rooms()}
        self.assertEqual(lacking_rooms(house, ledger), ["x", "y"])
        self.assertEqual(paper_of(house, ledger), ("lacks", "x"))
        self.assertEqual(paper_of(house, {**ledger, "x": 3}), ("lacks", "y"))
        self.assertIs(is_paper(house, ledger, ("lacks", "y")), True)

    def test_three_arms_of_two_rooms(self):
        there = reached_rows(SPIDER, 10)
        for row in product(range(4), range(4), range(4), range(2), range(2), range(2), range(5)):
            if 0 < sum(row) <= 10:
                ledger = as_ledger(SPIDER, row)
                self.assertIs(holds(SPIDER, ledger), row in there, ledger)
                self.assertEqual(paper_of(SPIDER, ledger) is None, row in there)
        ledger = {"a1": 1, "a2": 1, "a3": 1, "b1": 1, "b2": 1, "b3": 1, "c": 3}
        self.assertEqual(paper_of(SPIDER, ledger), ("apart", "a1", "a2", "a3"))
        self.assertEqual(papers(SPIDER, ledger), [("apart", "a1", "a2", "a3")])
        self.assertEqual(paper_of(SPIDER, {**ledger, "c": 2}), ("apart", "a1", "a2", "a3"))
        self.assertEqual(paper_of(SPIDER, {**ledger, "c": 1}), ("lacks", "c"))
        self.assertIsNone(paper_of(SPIDER, {**ledger, "a2": 2}))

    def test_is_paper_is_just_for_papers(self):
        words = ["dark", "lacks", "apart", "zz"]
        cases = [(EXAMPLE, 4), (row_house(list("acb")), 3), (TWO_ROOMS, 2), (ONE_ROOM, 2)]
        cases = [(house, as_ledger(house, row)) for house, most in cases for row in ledger_rows(house, most)]
        cases.append((SPIDER, {"a1": 1, "a2": 1, "a3": 1, "b1": 1, "b2": 1, "b3": 1, "c": 3}))
        cases.append((SPIDER, {"a1": 1, "a2": 1, "a3": 2, "b1": 1, "b2": 1, "b3": 1, "c": 1}))
        for house, ledger in cases:
            right = papers(house, ledger)
            for many in range(5 if len(house) < 5 else 4):
                for some in product(house.rooms(), repeat=many):
                    for word in words:
                        thing = (word,) + some
                        self.assertIs(is_paper(house, ledger, thing), thing in right, (ledger, thing))

    def test_is_paper_of_any_object(self):
        dark = {"a": 0, "b": 0, "c": 1, "d": 1}
        self.assertIs(is_paper(EXAMPLE, dark, ["dark", "c", "b", "d"]), True)
        for thing in any_objects():
            self.assertIs(is_paper(EXAMPLE, dark, thing), False)
            self.assertIs(is_paper(EXAMPLE, dark, (thing,)), False)
            for at in range(5):
                paper = ["dark", "c", "b", "d"]
                paper[at:at + 1] = [thing]
                self.assertIs(is_paper(EXAMPLE, dark, paper), at == 0 and thing == "dark")
        self.assertIs(is_paper(EXAMPLE, {**RIGHT, "b": 1}, ("lacks", "b")), True)
        self.assertIs(is_paper(EXAMPLE, {**RIGHT, "b": 1}, "lacks"), False)

    def test_claims(self):
        for house in small_houses():
            there = by_ledgers(house, 4)
            trials = [list(trial) for many in range(1, 5) for trial in product(house.rooms(), repeat=many)]
            near = rows(house)
            for row in ledger_rows(house, 4):
                ledger = as_ledger(house, row)
                for trial in trials[::7] + [list(walk) for walk in there.get(row, [])]:
                    self.assertEqual(claim_fault(house, ledger, trial), self.fault(near, ledger, trial))
                for walk in there.get(row, []):
                    self.assertIsNone(claim_fault(house, ledger, walk))

    def fault(self, near, ledger, trial):
        for index in range(1, len(trial)):
            if trial[index] not in near[trial[index - 1]] + [trial[index - 1]]:
                return ("step", index)
        return min([("hours", room) for room in ledger if trial.count(room) != ledger[room]], default=None)

    def test_claims_of_any_object(self):
        for thing in any_objects():
            if thing != ["a"]:
                self.assertEqual(claim_fault(EXAMPLE, RIGHT, thing), ("step", int(thing == ("a", 3))))
            self.assertEqual(claim_fault(EXAMPLE, RIGHT, ["a", "b", thing]), ("step", 2))
        self.assertIsNone(claim_fault(EXAMPLE, RIGHT, ("d", "b", "c", "b", "a")))
        self.assertEqual(claim_fault(EXAMPLE, RIGHT, ["d", "b", "d", "b", "a"]), ("hours", "c"))
        self.assertEqual(claim_fault(EXAMPLE, RIGHT, ["b", "b", "a"]), ("hours", "c"))
        self.assertEqual(claim_fault(EXAMPLE, RIGHT, ["a", "a"]), ("hours", "a"))

    def test_bad_ledger(self):
        wrong = any_objects() + [{**RIGHT, "a": -1}, {**RIGHT, "e": 1}, {room: 0 for room in "abcd"}, ["a"]]
        calls = [lacking_rooms, short_rooms, holds, paper_of]
        calls += [lambda *two: is_paper(*two, ("lacks", "b")), lambda *two: claim_fault(*two, None)]
        for call in calls:
            for thing in wrong:
                with self.assertRaises(BadLedger) as caught:
                    call(EXAMPLE, thing)
                self.assertIs(caught.exception.thing, thing)

    def test_what_is_passed_is_not_changed(self):
        ledger = {"d": 1, "b": 1, "c": 1, "a": 1}
        for call in (lacking_rooms, short_rooms, holds, paper_of):
            told = call(EXAMPLE, ledger)
            if isinstance(told, list):
                call(EXAMPLE, ledger).append("x")
            self.assertEqual(call(EXAMPLE, ledger), told)
        claim_fault(EXAMPLE, ledger, ["a", "b"])
        is_paper(EXAMPLE, ledger, ["lacks", "b"])
        self.assertEqual(list(ledger.items()), [("d", 1), ("b", 1), ("c", 1), ("a", 1)])

    def test_great_ones(self):
        for house in great_houses():
            near = rows(house)
            full = {room: max(len(near[room]), 1) for room in house.rooms()}
            self.assertIs(holds(house, full), True)
            self.assertIsNone(paper_of(house, full))
            ends = [room for room in house.rooms() if len(near[room]) == 1]
            dark = {room: int(room in ends) for room in house.rooms()}
            paper = paper_of(house, dark)
            self.assertEqual(paper[:2], ("dark", ends[0]))
            self.assertIs(is_paper(house, dark, paper), True)
            self.assertEqual(lit_rooms(house, dark), ends)

    def test_short_rooms_of_great_ones(self):
        row, star = great_houses()[:2]
        self.assertIs(holds(row, {room: 1 for room in row.rooms()}), True)
        self.assertIs(holds(star, {room: 58 if room == "r0" else 1 for room in star.rooms()}), True)
        self.assertEqual(paper_of(star, {room: 57 if room == "r0" else 1 for room in star.rooms()}), ("lacks", "r0"))
        arms = three_arms((21, 19, 19))
        ones = {room: 3 if room == "m" else 1 for room in arms.rooms()}
        self.assertEqual(paper_of(arms, ones), ("apart", "x0", "y0", "z0"))
        far = {**{room: 340 if room == "m" else 2 for room in arms.rooms()}, "x19": 1, "y17": 1, "z17": 1}
        self.assertEqual(paper_of(arms, far), ("apart", "x19", "y17", "z17"))
        self.assertIs(is_paper(arms, far, ("apart", "x19", "y17", "z17")), True)
        self.assertIs(holds(arms, {**far, "z17": 2}), True)
        self.assertEqual(short_rooms(arms, far), ["x19", "y17", "z17"])


if __name__ == "__main__":
    unittest.main()
