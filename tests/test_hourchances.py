"""[121] to [124], and [125] on them: chances of rooms at hours, of first light, and by what was seen."""

import random
import unittest
from fractions import Fraction

from lamplight.errors import BadHour, BadLedger, BadSeen, NeverSo, NoCarrying, NoRoom, SameRoom
from lamplight.hourchances import hour_chances, room_chances
from lamplight.lightchances import ahead_chance, light_chances, mean_light
from lamplight.seenchances import hour_given, last_given, seen_chance
from tests.brute import (EXAMPLE, ONE_ROOM, TWO_ROOMS, any_objects, great_ledger, random_house, row_house,
                         star_house)
from tests.checks import Checks, no_numbers, no_rooms, wrong_ledgers
from tests.test_endchances import added, cases, chances, mean, told_fraction

LEDGER = {"a": 1, "b": 2}
CALLS = [(hour_chances, [-1]), (room_chances, [5]), (light_chances, [5]), (mean_light, []), (ahead_chance, [5, 5]),
         (seen_chance, [5]), (hour_given, [5, 5]), (last_given, [5])]


def great_cases():
    """Houses and ledgers whose products of hours and one are near to four thousand."""
    told = [(row_house([f"r{k}" for k in range(11)]), {f"r{k}": 1 for k in range(11)}),
            (star_house(list("abcde")), {"a": 8, "b": 2, "c": 2, "d": 2, "e": 2}),
            (row_house(list("abcde")), {"a": 4, "b": 4, "c": 3, "d": 3, "e": 2})]
    for seed in range(3):
        house = random_house(list("fedcba"), seed)
        told.append((house, great_ledger(house, 16)))
    return told


class HourChancesTest(Checks):
    def same(self, told, expected):
        self.assertEqual((told, list(told)), (expected, list(expected)))

    def test_example(self):
        self.same(hour_chances(TWO_ROOMS, LEDGER, 0), {"a": (1, 3), "b": (2, 3)})
        self.same(light_chances(TWO_ROOMS, LEDGER, "b"), {0: (2, 3), 1: (1, 3)})
        self.same(mean_light(TWO_ROOMS, LEDGER), {"a": (1, 1), "b": (1, 3)})
        self.assertEqual(ahead_chance(TWO_ROOMS, LEDGER, "a", "b"), (1, 3))
        self.same(hour_given(TWO_ROOMS, LEDGER, {0: "b"}, 1), {"a": (1, 2), "b": (1, 2)})
        self.assertEqual(room_chances(TWO_ROOMS, LEDGER, "a"), [(1, 3)] * 3)

    def test_all_carryings(self):
        for house, ledger, walked in cases():
            hours = sum(ledger.values())
            for hour in range(hours):
                self.same(hour_chances(house, ledger, hour), chances(walk[hour] for walk in walked))
            for room in house.rooms():
                told = [told_fraction(Fraction(sum(walk[hour] == room for walk in walked), len(walked)))
                        for hour in range(hours)]
                self.assertEqual(room_chances(house, ledger, room), told)
                self.assertEqual(sum(Fraction(*each) for each in told), ledger[room])

    def test_first_light_of_all_carryings(self):
        for house, ledger, walked in cases():
            lit = [room for room in house.rooms() if ledger[room]]
            for room in house.rooms():
                expected = chances(walk.index(room) for walk in walked) if room in lit else {}
                self.same(light_chances(house, ledger, room), expected)
                for other in house.rooms():
                    if other != room:
                        self.check_ahead(house, ledger, walked, room, other)
            self.same(mean_light(house, ledger), {room: mean(walk.index(room) for walk in walked) for room in lit})
            # Turned about, first light is last light.
            for room in lit:
                last = Fraction(sum(len(walk) - 1 - walk[::-1].index(room) for walk in walked), len(walked))
                self.assertEqual(sum(ledger.values()) - 1 - Fraction(*mean_light(house, ledger)[room]), last)

    def check_ahead(self, house, ledger, walked, room, other):
        told = ahead_chance(house, ledger, room, other)
        if not ledger[room]:
            self.assertEqual(told, (0, 1))
        elif not ledger[other]:
            self.assertEqual(told, (1, 1))
        else:
            ahead = sum(walk.index(room) < walk.index(other) for walk in walked)
            self.assertEqual(told, told_fraction(Fraction(ahead, len(walked))))
            self.assertEqual(Fraction(*told) + Fraction(*ahead_chance(house, ledger, other, room)), 1)

    def test_seen_of_all_carryings(self):
        dice = random.Random(123)
        never = 0
        for house, ledger, walked in cases():
            hours = sum(ledger.values())
            for _ in range(8):
                walk = dice.choice(walked)
                seen = {hour: walk[hour] for hour in dice.sample(range(hours), dice.randrange(min(3, hours) + 1))}
                if dice.random() < 0.4:
                    seen[dice.randrange(hours)] = dice.choice(house.rooms())
                there = [each for each in walked if all(each[hour] == seen[hour] for hour in seen)]
                self.assertEqual(seen_chance(house, ledger, seen), told_fraction(Fraction(len(there), len(walked))))
                hour = dice.randrange(hours)
                if not there:
                    never += 1
                    self.check_error(NeverSo, {}, hour_given, house, ledger, seen, -1)
                    self.check_error(NeverSo, {}, last_given, house, ledger, seen)
                    continue
                self.same(hour_given(house, ledger, seen, hour), chances(each[hour] for each in there))
                self.same(last_given(house, ledger, seen), chances(each[-1] for each in there))
        self.assertGreater(never, 20)

    def test_facts(self):
        for seed in range(6):
            house = random_house(list("edcba"), seed)
            ledger = great_ledger(house, 11)
            for hour in range(11):
                self.assertEqual(added(hour_chances(house, ledger, hour)), 1)
                self.same(hour_chances(house, ledger, hour), hour_chances(house, ledger, 10 - hour))
                self.same(hour_given(house, ledger, {}, hour), hour_chances(house, ledger, hour))
            self.assertEqual(seen_chance(house, ledger, {}), (1, 1))
            some = {4: next(iter(hour_chances(house, ledger, 4)))}
            further = sum(Fraction(*seen_chance(house, ledger, {**some, 6: room})) for room in house.rooms())
            self.assertEqual(further, Fraction(*seen_chance(house, ledger, some)))

    def test_last_by_the_hours_left(self):
        """By what was seen up to an hour, each hour of it, the last room hangs on this hour's room and what is left."""
        ledger = {"a": 2, "b": 4, "c": 2, "d": 1}
        begun = ([*"abcb"], [*"cbab"], [*"bacb"])
        self.assertEqual(last_given(EXAMPLE, ledger, dict(enumerate(begun[0]))),
                         last_given(EXAMPLE, ledger, dict(enumerate(begun[1]))))
        self.check_error(NeverSo, {}, last_given, EXAMPLE, ledger, dict(enumerate(begun[2])))

    def test_few_rooms(self):
        self.assertEqual(room_chances(ONE_ROOM, {"a": 2}, "a"), [(1, 1), (1, 1)])
        self.assertEqual((hour_chances(ONE_ROOM, {"a": 2}, 1), mean_light(ONE_ROOM, {"a": 2})), ({"a": (1, 1)}, {"a": (0, 1)}))
        self.assertEqual(last_given(ONE_ROOM, {"a": 2}, {1: "a"}), {"a": (1, 1)})

    def test_dark_rooms(self):
        ledger = {"a": 2, "b": 1, "c": 0, "d": 0}
        self.assertEqual((light_chances(EXAMPLE, ledger, "c"), room_chances(EXAMPLE, ledger, "c")), ({}, [(0, 1)] * 3))
        self.assertEqual([ahead_chance(EXAMPLE, ledger, *pair) for pair in ("ca", "ac", "cd")], [(0, 1), (1, 1), (0, 1)])
        self.assertEqual(seen_chance(EXAMPLE, ledger, {0: "c"}), (0, 1))
        self.assertEqual(list(mean_light(EXAMPLE, ledger)), ["a", "b"])

    def test_errors(self):
        none = {"a": 1, "b": 0, "c": 1, "d": 1}
        for call, more in CALLS:
            for thing in wrong_ledgers(LEDGER):
                self.check_error(BadLedger, {"thing": thing}, call, TWO_ROOMS, thing, *more)
            # What is behind the ledger is looked at last.
            with self.assertRaises(NoCarrying) as caught:
                call(EXAMPLE, none, *more)
            self.assertEqual(caught.exception.paper, ("dark", "a", "b", "c"))
            with self.assertRaises(NoCarrying) as caught:
                call(EXAMPLE, {**none, "b": 1}, *more)
            self.assertEqual(caught.exception.paper, ("lacks", "b"))
        hours = no_numbers(0) + [3, 4, 10 ** 9]
        self.check_things(BadHour, hours, hour_chances, TWO_ROOMS, LEDGER, None)
        self.check_things(BadHour, hours, hour_given, TWO_ROOMS, LEDGER, {0: "b"}, None)
        for call in (room_chances, light_chances):
            self.check_things(NoRoom, no_rooms(), call, TWO_ROOMS, LEDGER, None)
        for thing in no_rooms():
            self.check_error(NoRoom, {"thing": thing}, ahead_chance, TWO_ROOMS, LEDGER, thing, 5)
            self.check_error(NoRoom, {"thing": thing}, ahead_chance, TWO_ROOMS, LEDGER, "a", thing)
        self.check_error(SameRoom, {"thing": "a"}, ahead_chance, TWO_ROOMS, LEDGER, "a", "a")
        self.check_error(SameRoom, {"thing": "c"}, ahead_chance, EXAMPLE, {"a": 1, "b": 1, "c": 0, "d": 0}, "c", "c")

    def test_wrong_seen(self):
        wrong = [thing for thing in any_objects() if thing != {}]
        wrong += [{3: "a"}, {-1: "a"}, {True: "a"}, {"0": "a"}, {None: "a"}, {0: "zz"}, {0: None}, {0: ["a"]}, {0: 0}]
        wrong += [{0: "a", 5: "b"}, [(0, "a")], [[0, "a"]], {(0,): "a"}, {0: "b", 1: True}]
        for call, more in ((seen_chance, []), (hour_given, [-1]), (last_given, [])):
            for thing in wrong:
                self.check_error(BadSeen, {"thing": thing}, call, TWO_ROOMS, LEDGER, thing, *more)
        self.check_error(NeverSo, {}, hour_given, TWO_ROOMS, LEDGER, {0: "a", 1: "a"}, -1)
        self.assertEqual(seen_chance(TWO_ROOMS, LEDGER, {0: "a", 1: "a"}), (0, 1))

    def test_kept(self):
        ledger = {"d": 1, "c": 2, "b": 4, "a": 0}
        self.check_kept(hour_chances, EXAMPLE, ledger, 3)
        self.check_kept(room_chances, EXAMPLE, ledger, "b")
        self.check_kept(light_chances, EXAMPLE, ledger, "c")
        self.check_kept(mean_light, EXAMPLE, ledger)
        self.check_kept(ahead_chance, EXAMPLE, ledger, "c", "b")
        self.check_kept(seen_chance, EXAMPLE, ledger, {4: "b", 1: "c"})
        self.check_kept(hour_given, EXAMPLE, ledger, {4: "b", 1: "c"}, 2)
        self.check_kept(last_given, EXAMPLE, ledger, {4: "b", 1: "c"})

    def test_great_ones(self):
        for house, ledger in great_cases():
            hours = sum(ledger.values())
            first, last = house.rooms()[0], house.rooms()[-1]
            self.assertEqual(added(hour_chances(house, ledger, hours // 2)), 1)
            self.assertEqual(sum(Fraction(*each) for each in room_chances(house, ledger, first)), ledger[first])
            self.assertEqual(added(light_chances(house, ledger, last)), 1)
            means = mean_light(house, ledger)
            told = light_chances(house, ledger, last)
            self.assertEqual(sum(hour * Fraction(*told[hour]) for hour in told), Fraction(*means[last]))
            both = [Fraction(*ahead_chance(house, ledger, *pair)) for pair in ((first, last), (last, first))]
            self.assertEqual(sum(both), 1)
            room = next(iter(hour_chances(house, ledger, 5)))
            self.assertEqual(added(last_given(house, ledger, {5: room})), 1)
            self.assertEqual(hour_given(house, ledger, {5: room}, 5), {room: (1, 1)})
            self.assertEqual(seen_chance(house, ledger, {5: room}), hour_chances(house, ledger, 5)[room])


if __name__ == "__main__":
    unittest.main()
