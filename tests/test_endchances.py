"""[117] to [120], and [125] on them: a carrying drawn evenly, chances of its ends, doors and stays."""

import unittest
from fractions import Fraction

from lamplight.counting import count_carryings
from lamplight.endchances import (door_chances, drawn_by, ends_chances, first_chances, mean_passes, mean_stays,
                                  stay_chances)
from lamplight.errors import BadLedger, BadNumber, NoCarrying, NoDoor, NoRoom
from lamplight.onelaw import paper_of
from tests.brute import (EXAMPLE, ONE_ROOM, SPIDER, TWO_ROOMS, any_objects, as_ledger, by_ledgers, carryings_of,
                         great_ledger, random_house, random_ledgers, row_house, rows, small_houses, star_house)
from tests.checks import Checks, no_rooms, wrong_ledgers

LEDGER = {"a": 1, "b": 2}
OF_LEDGER = (ends_chances, first_chances, mean_passes, mean_stays)
# What each function of this module is called with behind the house and the ledger.
CALLS = [(each, []) for each in OF_LEDGER] + [(drawn_by, [None]), (door_chances, [5, 5]), (stay_chances, [5])]


class Wrong(Exception):
    pass


def told_fraction(number):
    return (number.numerator, number.denominator)


def chances(things):
    """The chances of things, each as likely, ascending."""
    things = list(things)
    return {thing: told_fraction(Fraction(things.count(thing), len(things))) for thing in sorted(set(things))}


def mean(numbers):
    numbers = list(numbers)
    return told_fraction(Fraction(sum(numbers), len(numbers)))


def added(table):
    return sum(Fraction(*each) for each in table.values())


def passes_through(walk, door):
    return sum(one != other and {one, other} == set(door) for one, other in zip(walk, walk[1:]))


def stays_in(walk, room):
    return sum(each == room and (at == 0 or walk[at - 1] != room) for at, each in enumerate(walk))


def cases():
    """Triples of a house, a ledger, with dark rooms, too, and all its carryings."""
    told = []
    for house in small_houses() + [star_house(list("cabde"))]:
        there = by_ledgers(house, 7)
        for row in list(there)[::1 + len(there) // 25]:
            told.append((house, as_ledger(house, row), there[row]))
    for house, ledger in random_ledgers(117, 10, (5, 6), 10):
        walked = carryings_of(house, ledger)
        if walked:
            told.append((house, ledger, walked))
    return told


class EndChancesTest(Checks):
    def same(self, told, expected):
        """That dicts are equal, and in the same order."""
        self.assertEqual((told, list(told)), (expected, list(expected)))

    def test_example(self):
        self.same(ends_chances(TWO_ROOMS, LEDGER), {("a", "b"): (1, 3), ("b", "a"): (1, 3), ("b", "b"): (1, 3)})
        self.same(first_chances(TWO_ROOMS, LEDGER), {"a": (1, 3), "b": (2, 3)})
        self.same(door_chances(TWO_ROOMS, LEDGER, "a", "b"), {1: (2, 3), 2: (1, 3)})
        self.same(mean_passes(TWO_ROOMS, LEDGER), {("a", "b"): (4, 3)})
        self.same(mean_stays(TWO_ROOMS, LEDGER), {"a": (1, 1), "b": (4, 3)})
        self.same(stay_chances(TWO_ROOMS, LEDGER, "b"), {1: (2, 3), 2: (1, 3)})

    def test_all_carryings(self):
        for house, ledger, walked in cases():
            self.same(ends_chances(house, ledger), chances((walk[0], walk[-1]) for walk in walked))
            self.same(first_chances(house, ledger), chances(walk[0] for walk in walked))
            doors = {}
            for door in house.doors():
                many = [passes_through(walk, door) for walk in walked]
                self.same(door_chances(house, ledger, *door), chances(many))
                self.same(door_chances(house, ledger, *door[::-1]), chances(many))
                doors[door] = mean(many)
            self.same(mean_passes(house, ledger), doors)
            stays = {}
            for room in house.rooms():
                many = [stays_in(walk, room) for walk in walked]
                self.same(stay_chances(house, ledger, room), chances(many))
                stays[room] = mean(many)
            self.same(mean_stays(house, ledger), stays)

    def test_dark_rooms(self):
        ledger = {"a": 2, "b": 1, "c": 0, "d": 0}
        self.same(door_chances(EXAMPLE, ledger, "c", "b"), {0: (1, 1)})
        self.same(stay_chances(EXAMPLE, ledger, "d"), {0: (1, 1)})
        self.assertEqual((mean_stays(EXAMPLE, ledger)["c"], mean_passes(EXAMPLE, ledger)[("b", "d")]), ((0, 1), (0, 1)))
        self.assertNotIn("c", first_chances(EXAMPLE, ledger))

    def test_few_rooms(self):
        self.same(ends_chances(ONE_ROOM, {"a": 3}), {("a", "a"): (1, 1)})
        self.assertEqual((mean_passes(ONE_ROOM, {"a": 3}), mean_stays(ONE_ROOM, {"a": 3})), ({}, {"a": (1, 1)}))
        self.assertEqual(drawn_by(ONE_ROOM, {"a": 3}, lambda many: many - 1), ["a", "a", "a"])

    def test_facts(self):
        for a in range(1, 8):
            for b in range(1, 8):
                told = mean_passes(TWO_ROOMS, {"a": a, "b": b})
                self.assertEqual(told[("a", "b")], told_fraction(Fraction(2 * a * b, a + b)))
        for seed in range(20):
            house = random_house(list("gfedcba"), seed)
            ledger = great_ledger(house, 20)
            pairs = ends_chances(house, ledger)
            self.assertEqual(added(pairs), 1)
            self.assertTrue(all(pairs[pair] == pairs[pair[::-1]] for pair in pairs))
            firsts = first_chances(house, ledger)
            for room in firsts:
                lasts = [Fraction(*pairs[pair]) for pair in pairs if pair[1] == room]
                self.assertEqual(sum(lasts), Fraction(*firsts[room]))
            through, stays = mean_passes(house, ledger), mean_stays(house, ledger)
            for room in house.rooms():
                doors = sum(Fraction(*through[door]) for door in through if room in door)
                self.assertEqual((doors + 2 * Fraction(*firsts.get(room, (0, 1)))) / 2, Fraction(*stays[room]))

    def test_drawn(self):
        for house, ledger, walked in cases()[::3]:
            asked = []
            for number in range(len(walked)):
                told = drawn_by(house, ledger, lambda many: asked.append(many) or number)
                self.assertEqual(told, list(sorted(walked)[number]))
            self.assertEqual(asked, [len(walked)] * len(walked))

    def test_errors(self):
        for call, more in CALLS:
            for thing in wrong_ledgers(LEDGER):
                self.check_error(BadLedger, {"thing": thing}, call, TWO_ROOMS, thing, *more)
            for ledger in ({"a": 0, "b": 1, "c": 1, "d": 1}, {"a": 1, "b": 0, "c": 1, "d": 1},
                           {"a": 1, "b": 1, "c": 1, "d": 1}):
                if paper_of(EXAMPLE, ledger) is not None:
                    self.check_no_carrying(call, EXAMPLE, ledger, more)
            self.check_no_carrying(call, SPIDER, {room: 1 if room != "c" else 3 for room in SPIDER.rooms()}, more)
        for thing in no_rooms():
            self.check_error(NoRoom, {"thing": thing}, door_chances, TWO_ROOMS, LEDGER, thing, 5)
            self.check_error(NoRoom, {"thing": thing}, door_chances, TWO_ROOMS, LEDGER, "a", thing)
            self.check_error(NoRoom, {"thing": thing}, stay_chances, TWO_ROOMS, LEDGER, thing)
        full = {"a": 2, "b": 3, "c": 2, "d": 2}
        for one, other in (("a", "c"), ("d", "a"), ("b", "b")):
            self.check_error(NoDoor, {"one": one, "other": other}, door_chances, EXAMPLE, full, one, other)

    def check_no_carrying(self, call, house, ledger, more):
        with self.assertRaises(NoCarrying) as caught:
            call(house, ledger, *more)
        self.assertEqual(caught.exception.paper, paper_of(house, ledger))
        self.assertIsNotNone(caught.exception.paper)

    def test_choosers(self):
        for thing in any_objects() + [3, 4, 10 ** 9]:
            if type(thing) is not int or not 0 <= thing < 3:
                self.check_error(BadNumber, {"thing": thing}, drawn_by, TWO_ROOMS, LEDGER, lambda many: thing)

        def chooser(many):
            raise Wrong()

        with self.assertRaises(Wrong):
            drawn_by(TWO_ROOMS, LEDGER, chooser)

    def test_kept(self):
        ledger = {"d": 1, "c": 2, "b": 4, "a": 0}
        for call in OF_LEDGER:
            self.check_kept(call, EXAMPLE, ledger)
        self.check_kept(door_chances, EXAMPLE, ledger, "b", "c")
        self.check_kept(stay_chances, EXAMPLE, ledger, "b")
        self.check_kept(drawn_by, EXAMPLE, ledger, lambda many: 3)

    def test_great_ones(self):
        names = list("hgfedcba")
        for house in [row_house(names), star_house(names)] + [random_house(names, seed) for seed in range(4)]:
            ledger = great_ledger(house, 24)
            many = count_carryings(house, ledger)
            self.assertEqual(added(ends_chances(house, ledger)), 1)
            self.assertEqual(added(first_chances(house, ledger)), 1)
            for room, near in rows(house).items():
                self.assertEqual(added(stay_chances(house, ledger, room)), 1)
                for other in near:
                    told = door_chances(house, ledger, room, other)
                    self.assertEqual(added(told), 1)
                    self.assertTrue(all(many % under == 0 for _, under in told.values()))
            mean_passes(house, ledger)
            mean_stays(house, ledger)
            self.assertEqual(len(drawn_by(house, ledger, lambda each: each // 2)), 24)


if __name__ == "__main__":
    unittest.main()
