"""[28] to [32]: sure parts, first and last light."""

import unittest

from lamplight.ends import ends
from lamplight.errors import BadLedger, BadWhen, NoRoom
from lamplight.light import carrying_lit, first_light, last_light, light_of_all, sure_parts
from lamplight.onelaw import claim_fault
from tests.brute import (EXAMPLE, ONE_ROOM, TWO_ROOMS, any_objects, as_ledger, by_ledgers, carryings_of,
                         five_room_houses, great_houses, great_ledger, ledger_rows, random_ledgers, row_house, rows,
                         small_houses, three_arms, walk_between)
from tests.checks import Checks, dark_ledgers, no_rooms, wrong_ledgers
from tests.test_ends import needs_by_words

ROW = row_house(list("abcd"))
HOURS = {"a": 1, "b": 1, "c": 3, "d": 1}
WORDS = ("soon", "late", "done soon", "done late")


def last_hour(walk, room):
    return max(hour for hour, there in enumerate(walk) if there == room)


def span(hours):
    return (min(hours), max(hours)) if hours else None


def once_by_all(there):
    """The doors that are gone through just once by all of some carryings, as pairs."""
    doors = {tuple(sorted(pair)) for walk in there for pair in zip(walk, walk[1:]) if pair[0] != pair[1]}
    return {door for door in doors if all(passes_through(walk, door) == 1 for walk in there)}


def passes_through(walk, door):
    return sum(tuple(sorted(pair)) == door for pair in zip(walk, walk[1:]))


def parts_by_words(house, ledger, first, last):
    """The sure parts and the sure doors: doors of the way with a room that has just its need."""
    wanted = needs_by_words(house, first, last)
    through = walk_between(house, first, last)
    just = [room for room in wanted if ledger[room] == wanted[room]]
    sure = [pair for pair in zip(through, through[1:]) if pair[0] in just or pair[1] in just]
    near = rows(house)
    told = []
    hour = 0
    for start in [first] + [other for _, other in sure]:
        part = [start]
        for room in part:
            part += [far for far in near[room] if far not in part and (room, far) not in sure
                     and (far, room) not in sure]
        told.append((hour, sorted(part)))
        hour += sum(ledger[room] for room in part)
    return told, {tuple(sorted(pair)) for pair in sure}


class LightTest(Checks):
    def test_example(self):
        self.assertEqual(sure_parts(ROW, HOURS, "a", "c"), [(0, ["a"]), (1, ["b"]), (2, ["c", "d"])])
        self.assertEqual(first_light(ROW, HOURS, "a", "c", "d"), (3, 4))
        self.assertEqual(first_light(ROW, HOURS, "a", "c", "c"), (2, 2))
        self.assertEqual(light_of_all(ROW, HOURS, "d"), (0, 5))

    def test_hours_between_need_not_be_met(self):
        house = row_house(list("abc"))
        ledger = {"a": 1, "b": 3, "c": 1}
        hours = {walk.index("a") for walk in carryings_of(house, ledger) if walk[0] == walk[-1] == "b"}
        self.assertEqual(hours, {1, 3})
        self.assertEqual(first_light(house, ledger, "b", "b", "a"), (1, 3))

    def check(self, house, ledger, there):
        for room in house.rooms():
            expected = span([walk.index(room) for walk in there])
            told = light_of_all(house, ledger, room)
            self.assertEqual(told, expected)
            if told is not None:
                self.assertEqual(told[0] == 0, any(walk[0] == room for walk in there))
        for first in house.rooms():
            for last in house.rooms():
                some = [walk for walk in there if (walk[0], walk[-1]) == (first, last)]
                self.check_parts(house, ledger, first, last, some)
                for room in house.rooms():
                    self.check_between(house, ledger, first, last, room, some)

    def check_between(self, house, ledger, first, last, room, some):
        lit = span([walk.index(room) for walk in some])
        done = span([last_hour(walk, room) for walk in some])
        self.assertEqual(first_light(house, ledger, first, last, room), lit, (house.doors(), ledger))
        self.assertEqual(last_light(house, ledger, first, last, room), done, (house.doors(), ledger))
        for when in WORDS:
            told = carrying_lit(house, ledger, first, last, room, when)
            if not some:
                self.assertIsNone(told)
                continue
            self.assertIs(type(told), list)
            self.assertIn(tuple(told), some)
            hour = last_hour(told, room) if when in WORDS[2:] else told.index(room)
            expected = done if when in WORDS[2:] else lit
            self.assertEqual(hour, expected[WORDS.index(when) % 2], (house.doors(), ledger, first, last, when))

    def check_parts(self, house, ledger, first, last, some):
        told = sure_parts(house, ledger, first, last)
        if not some:
            self.assertEqual(told, [])
            return
        expected, sure = parts_by_words(house, ledger, first, last)
        self.assertEqual(told, expected)
        self.assertEqual({type(part) for part in told} | {type(part[1]) for part in told}, {tuple, list})
        self.assertEqual(once_by_all(some), sure)
        for walk in some:
            for hour, part in told:
                many = sum(ledger[room] for room in part)
                self.assertEqual([room in part for room in walk], [hour <= k < hour + many for k in range(len(walk))])

    def test_all_ledgers_of_a_few_hours(self):
        for house, most in [(house, 8) for house in small_houses()] + [(house, 8) for house in five_room_houses()]:
            there = by_ledgers(house, most)
            for row in ledger_rows(house, most):
                if 0 not in row:
                    self.check(house, as_ledger(house, row), there.get(row, []))

    def test_greater_houses(self):
        for house, ledger in random_ledgers(3, 30, (6, 7, 8), 13):
            self.check(house, ledger, carryings_of(house, ledger))
        for house, ledger in random_ledgers(4, 6, (4, 5), 14):
            self.check(house, ledger, carryings_of(house, ledger))

    def test_few_rooms(self):
        self.assertEqual(sure_parts(ONE_ROOM, {"a": 2}, "a", "a"), [(0, ["a"])])
        self.assertEqual(first_light(ONE_ROOM, {"a": 2}, "a", "a", "a"), (0, 0))
        self.assertEqual(last_light(ONE_ROOM, {"a": 2}, "a", "a", "a"), (1, 1))
        self.assertEqual(light_of_all(ONE_ROOM, {"a": 2}, "a"), (0, 0))
        self.assertEqual(carrying_lit(ONE_ROOM, {"a": 2}, "a", "a", "a", "late"), ["a", "a"])
        ledger = {"a": 2, "b": 2}
        self.assertEqual(sure_parts(TWO_ROOMS, ledger, "a", "b"), [(0, ["a", "b"])])
        self.assertEqual(sure_parts(TWO_ROOMS, {"a": 2, "b": 1}, "a", "b"), [(0, ["a"]), (2, ["b"])])
        self.assertEqual(first_light(TWO_ROOMS, ledger, "a", "b", "b"), (1, 2))
        self.assertEqual(last_light(TWO_ROOMS, ledger, "a", "b", "a"), (1, 2))
        self.assertEqual(carrying_lit(TWO_ROOMS, ledger, "a", "b", "b", "soon"), ["a", "b", "a", "b"])
        self.assertEqual(light_of_all(TWO_ROOMS, ledger, "b"), (0, 2))

    def test_bad_ledger(self):
        right = {"a": 1, "b": 2, "c": 1, "d": 1}
        wrong = wrong_ledgers(right) + dark_ledgers(right)
        self.check_things(BadLedger, wrong, sure_parts, EXAMPLE, None, "zz", "zz")
        self.check_things(BadLedger, wrong, light_of_all, EXAMPLE, None, "zz")
        for call in (first_light, last_light):
            self.check_things(BadLedger, wrong, call, EXAMPLE, None, "zz", "zz", "zz")
        self.check_things(BadLedger, wrong, carrying_lit, EXAMPLE, None, "zz", "zz", "zz", "zz")

    def test_no_room(self):
        for ledger in ({"a": 1, "b": 2, "c": 1, "d": 1}, {"a": 1, "b": 1, "c": 1, "d": 1}):
            for thing in no_rooms():
                kept = {"thing": thing}
                self.check_error(NoRoom, kept, sure_parts, EXAMPLE, ledger, thing, "yy")
                self.check_error(NoRoom, kept, sure_parts, EXAMPLE, ledger, "a", thing)
                self.check_error(NoRoom, kept, light_of_all, EXAMPLE, ledger, thing)
                for call, more in ((first_light, []), (last_light, []), (carrying_lit, ["zz"])):
                    self.check_error(NoRoom, kept, call, EXAMPLE, ledger, thing, "yy", "yy", *more)
                    self.check_error(NoRoom, kept, call, EXAMPLE, ledger, "a", thing, "yy", *more)
                    self.check_error(NoRoom, kept, call, EXAMPLE, ledger, "a", "c", thing, *more)

    def test_bad_when(self):
        wrong = any_objects() + ["Soon", "done", "late ", ("soon",), ["late"]]
        for ledger in ({"a": 1, "b": 2, "c": 1, "d": 1}, {"a": 1, "b": 1, "c": 1, "d": 1}):
            for thing in wrong:
                self.check_error(BadWhen, {"thing": thing}, carrying_lit, EXAMPLE, ledger, "a", "c", "b", thing)

    def test_kept(self):
        ledger = {"d": 2, "b": 6, "a": 2, "c": 1}
        for first, last in (("a", "c"), ("b", "b")):
            self.check_kept(sure_parts, EXAMPLE, ledger, first, last)
            self.check_kept(first_light, EXAMPLE, ledger, first, last, "d")
            self.check_kept(last_light, EXAMPLE, ledger, first, last, "d")
            for when in WORDS:
                self.check_kept(carrying_lit, EXAMPLE, ledger, first, last, "d", when)
        self.check_kept(light_of_all, EXAMPLE, ledger, "c")

    def test_great_ones(self):
        for house in great_houses(40):
            ledger = great_ledger(house, 300)
            names = house.rooms()
            pairs = ends(house, ledger)
            for room in names[::9]:
                least, greatest = light_of_all(house, ledger, room)
                spans = [first_light(house, ledger, *pair, room) for pair in pairs[::97]]
                self.assertTrue(all(least <= soon <= late <= greatest for soon, late in spans))
                self.assertEqual(least, 0)
            for first, last in pairs[::401]:
                soon, late = first_light(house, ledger, first, last, names[7])
                done = last_light(house, ledger, first, last, names[7])
                self.assertTrue(soon <= late and soon + ledger[names[7]] - 1 <= done[1] <= 299)
                self.assertEqual(done[::-1], tuple(299 - k for k in first_light(house, ledger, last, first, names[7])))
                parts = sure_parts(house, ledger, first, last)
                self.assertEqual(sorted(room for _, part in parts for room in part), names)

    def test_great_ones_shown(self):
        for house in great_houses(30):
            ledger = great_ledger(house, 100)
            names = house.rooms()
            for first, last in ends(house, ledger)[::211]:
                for room in names[::7]:
                    spans = [*first_light(house, ledger, first, last, room),
                             *last_light(house, ledger, first, last, room)]
                    for when, hour in zip(WORDS, spans):
                        told = carrying_lit(house, ledger, first, last, room, when)
                        self.assertIsNone(claim_fault(house, ledger, told))
                        self.assertEqual((told[0], told[-1]), (first, last))
                        self.assertEqual(last_hour(told, room) if when in WORDS[2:] else told.index(room), hour)

    def test_great_ones_of_known_hours(self):
        house = three_arms((13, 13, 13))
        ledger = {room: 4 for room in house.rooms()}
        # From x5 to y5, by the middle: z5 is reached straight, or behind all of x, of the middle and of most of y.
        self.assertEqual(first_light(house, ledger, "x5", "y5", "z5"), (12, 160 - 4 * 8 - 6 - 6))
        row = great_houses(40)[0]
        ledger = {room: 1 for room in row.rooms()}
        self.assertEqual(first_light(row, ledger, "r0", "r39", "r20"), (20, 20))
        self.assertEqual(len(sure_parts(row, ledger, "r0", "r39")), 40)
        self.assertEqual(light_of_all(row, ledger, "r20"), (19, 20))


if __name__ == "__main__":
    unittest.main()
