"""[38]: the carryings of a ledger in order."""

import unittest

from lamplight.counting import count_carryings
from lamplight.errors import BadBegun, BadCarrying, BadLedger, BadNumber
from lamplight.goingon import first_carrying, lost_at
from lamplight.numbering import carrying_at, carrying_number, count_begun, next_carrying
from lamplight.onelaw import claim_fault
from tests.brute import (EXAMPLE, ONE_ROOM, TWO_ROOMS, any_objects, as_ledger, by_ledgers, carryings_of,
                         five_room_houses, great_houses, great_ledger, ledger_rows, random_ledgers, small_houses,
                         star_house, walks_to)
from tests.checks import Checks, wrong_ledgers

RIGHT = {"a": 1, "b": 2, "c": 1, "d": 1}


class NumberingTest(Checks):
    def test_example(self):
        self.assertEqual(carrying_at(EXAMPLE, RIGHT, 0), list("abcbd"))
        self.assertEqual(carrying_at(EXAMPLE, RIGHT, 5), list("dbcba"))
        self.assertEqual(carrying_number(EXAMPLE, list("abdbc")), 1)
        self.assertEqual(next_carrying(EXAMPLE, list("abdbc")), list("cbabd"))
        self.assertIsNone(next_carrying(EXAMPLE, list("dbcba")))
        self.assertEqual([count_begun(EXAMPLE, RIGHT, begun) for begun in ([], ["a"], ["b"], ["a", "b", "c"])],
                         [6, 2, 0, 1])

    def check(self, house, ledger, there):
        for number, walk in enumerate(there):
            self.assertEqual(carrying_at(house, ledger, number), list(walk))
            self.assertEqual(carrying_number(house, walk), number)
            expected = list(there[number + 1]) if number + 1 < len(there) else None
            self.assertEqual(next_carrying(house, walk), expected)
            self.assertEqual(count_begun(house, ledger, list(walk)), 1)
        for wrong in (len(there), len(there) + 1):
            self.check_error(BadNumber, {"thing": wrong}, carrying_at, house, ledger, wrong)

    def test_all_ledgers_of_a_few_hours(self):
        for house, most in [(house, 6) for house in small_houses()] + [(house, 6) for house in five_room_houses()]:
            there = by_ledgers(house, most)
            for row in ledger_rows(house, most):
                self.check(house, as_ledger(house, row), there.get(row, []))

    def test_all_that_is_begun(self):
        for house in small_houses() + five_room_houses()[:1]:
            there = by_ledgers(house, 5)
            begun = [()] + walks_to(house, 4)
            for row in ledger_rows(house, 5):
                ledger = as_ledger(house, row)
                for trial in begun:
                    if all(trial.count(room) <= ledger[room] for room in ledger):
                        expected = sum(walk[:len(trial)] == trial for walk in there.get(row, []))
                        self.assertEqual(count_begun(house, ledger, list(trial)), expected)
                        self.assertEqual(expected == 0, lost_at(house, ledger, trial) is not None)

    def test_greater_houses(self):
        for house, ledger in random_ledgers(9, 12, (5, 6, 7), 12):
            there = carryings_of(house, ledger)
            picked = [walk for number, walk in enumerate(there) if number % (1 + len(there) // 15) == 0]
            for walk in picked + there[-1:]:
                number = there.index(walk)
                self.assertEqual(carrying_at(house, ledger, number), list(walk))
                self.assertEqual(carrying_number(house, list(walk)), number)
                expected = list(there[number + 1]) if number + 1 < len(there) else None
                self.assertEqual(next_carrying(house, list(walk)), expected)
                for many in range(len(walk)):
                    begun = sum(other[:many] == walk[:many] for other in there)
                    self.assertEqual(count_begun(house, ledger, walk[:many]), begun)

    def test_few_rooms(self):
        self.assertEqual(carrying_at(ONE_ROOM, {"a": 3}, 0), ["a", "a", "a"])
        self.assertEqual(carrying_number(ONE_ROOM, ["a"]), 0)
        self.assertIsNone(next_carrying(ONE_ROOM, ["a", "a"]))
        self.assertEqual(count_begun(ONE_ROOM, {"a": 3}, ["a", "a"]), 1)
        self.assertEqual(carrying_at(TWO_ROOMS, {"a": 0, "b": 1}, 0), ["b"])
        self.assertEqual([carrying_at(TWO_ROOMS, {"a": 2, "b": 1}, number) for number in range(3)],
                         [list("aab"), list("aba"), list("baa")])

    def test_bad_number(self):
        wrong = [thing for thing in any_objects() if type(thing) is not int or not 0 <= thing < 6]
        self.check_things(BadNumber, wrong + [6], carrying_at, EXAMPLE, RIGHT, None)
        self.check_things(BadNumber, wrong + [0], carrying_at, EXAMPLE, {**RIGHT, "b": 1}, None)

    def test_other_errors(self):
        wrong = wrong_ledgers(RIGHT)
        self.check_things(BadLedger, wrong, carrying_at, EXAMPLE, None, -1)
        self.check_things(BadLedger, wrong, count_begun, EXAMPLE, None, ["zz"])
        for thing in any_objects():
            self.check_error(BadBegun, {"index": 2}, count_begun, EXAMPLE, RIGHT, ["a", "b", thing])
            for call in (carrying_number, next_carrying):
                self.check_error(BadCarrying, {"index": 2}, call, EXAMPLE, ["a", "b", thing])
            if not isinstance(thing, (list, tuple)):
                self.check_error(BadBegun, {"index": 0}, count_begun, EXAMPLE, RIGHT, thing)
                for call in (carrying_number, next_carrying):
                    self.check_error(BadCarrying, {"index": 0}, call, EXAMPLE, thing)
        for call in (carrying_number, next_carrying):
            self.check_error(BadCarrying, {"index": 0}, call, EXAMPLE, [])
            self.check_error(BadCarrying, {"index": 1}, call, EXAMPLE, ("a", "c"))
        self.check_error(BadBegun, {"index": 1}, count_begun, EXAMPLE, RIGHT, ["a", "a"])

    def test_kept(self):
        ledger = {"d": 1, "b": 3, "a": 2, "c": 1}
        self.check_kept(carrying_at, EXAMPLE, ledger, 7)
        self.check_kept(carrying_number, EXAMPLE, list("aabcbbd"))
        self.check_kept(next_carrying, EXAMPLE, list("aabcbbd"))
        self.check_kept(count_begun, EXAMPLE, ledger, ["a", "b"])
        self.check_kept(count_begun, EXAMPLE, ledger, [])

    def test_great_ones(self):
        for house in great_houses(10):
            self.check_great(house, great_ledger(house, 30))
        star = star_house([f"r{k}" for k in range(60)])
        ledger = {room: 0 for room in star.rooms()}
        ledger.update({f"r{k}": 2 for k in range(1, 10)}, r0=12)
        self.check_great(star, ledger)

    def check_great(self, house, ledger):
        many = count_carryings(house, ledger)
        self.assertEqual(carrying_at(house, ledger, 0), first_carrying(house, ledger))
        for number in (many // 3, many - 1):
            told = carrying_at(house, ledger, number)
            self.assertIsNone(claim_fault(house, ledger, told))
            self.assertEqual(carrying_number(house, told), number)
            further = next_carrying(house, told)
            expected = carrying_at(house, ledger, number + 1) if number + 1 < many else None
            self.assertEqual(further, expected)
            self.assertEqual(count_begun(house, ledger, told[:-1]), 1)
        begun = [count_begun(house, ledger, [room]) for room in house.rooms() if ledger[room]]
        self.assertEqual(sum(begun), many)


if __name__ == "__main__":
    unittest.main()
