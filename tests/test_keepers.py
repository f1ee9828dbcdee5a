"""[99], and [104] on it: houses told back by keepers."""

import random
import unittest
from itertools import product

from lamplight.added import is_full
from lamplight.errors import BadKeeper, BadRooms, NoHouse, NoTruth
from lamplight.keepers import told_back
from lamplight.twins import plain_twin
from tests.brute import SPIDER, all_houses, any_objects, great_houses, no_functions, random_house, three_arms
from tests.checks import Checks
from tests.test_twins import LONG, T


class Asked:
    """A keeper that goes by a rule, spoils what it is handed, and knows what it was asked."""

    def __init__(self, rule):
        self.rule = rule
        self.records = []

    def __call__(self, ledger):
        kept = dict(ledger)
        truth = self.rule(kept)
        self.records.append((kept, truth))
        ledger.clear()
        return truth


class Wrong(Exception):
    pass


class KeepersTest(Checks):
    def check_asked(self, rooms, asked):
        """That ledgers were ascending, of hours from 1 to the number of rooms, and each asked of once at most."""
        seen = [tuple(ledger.items()) for ledger, _ in asked.records]
        self.assertEqual(len(seen), len(set(seen)))
        for ledger, _ in asked.records:
            self.assertEqual(list(ledger), sorted(rooms))
            self.assertTrue(all(1 <= hours <= len(rooms) for hours in ledger.values()))

    def test_all_small_houses(self):
        for many in range(1, 6):
            for house in all_houses(list("edcba")[:many]):
                asked = Asked(lambda ledger, house=house: is_full(house, ledger))
                told = told_back(list(reversed(house.rooms())), asked)
                self.assertEqual(told, plain_twin(house))
                self.check_asked(house.rooms(), asked)

    def test_greater_houses(self):
        houses = [T, SPIDER, three_arms((2, 3, 2))] + great_houses(9) + great_houses(12)
        houses += [random_house(list("hgfedcba"), seed) for seed in range(40)]
        for house in houses + [random_house([f"r{k}" for k in range(12)], seed) for seed in range(20)]:
            asked = Asked(lambda ledger, house=house: is_full(house, ledger))
            self.assertEqual(told_back(tuple(house.rooms()), asked), plain_twin(house))
            self.check_asked(house.rooms(), asked)

    def test_keepers_of_no_house(self):
        """Keepers that go by any rule: a house that fits all that was asked, or none does, all houses being tried."""
        dice = random.Random(99)
        told = {True: 0, False: 0}
        for many in (1, 2, 3, 4):
            names = list("abcd")[:many]
            houses = all_houses(names)
            for seed in range(150):
                answers = {}
                chance = dice.choice((0.2, 0.5, 0.8, 0.95, 1))
                bare = {room: dice.randrange(1, 4) for room in names}

                def rule(ledger):
                    right = all(ledger[room] >= bare[room] for room in names)
                    key = tuple(ledger.items())
                    return answers.setdefault(key, right if dice.random() < chance else not right)

                asked = Asked(rule)
                fits = True
                try:
                    house = told_back(names, asked)
                except NoHouse as error:
                    fits = False
                    self.assertEqual(error.records, asked.records)
                    self.assertEqual(type(error.records), list)
                    self.assertEqual([type(record) for record in error.records], [tuple] * len(asked.records))
                self.check_asked(names, asked)
                there = [each for each in houses
                         if all(is_full(each, ledger) == truth for ledger, truth in asked.records)]
                self.assertEqual(bool(there), fits)
                if fits:
                    self.assertIn(house, [plain_twin(each) for each in there])
                told[fits] += 1
        self.assertGreater(min(told.values()), 100)

    def test_rules_near_to_houses(self):
        """Houses of seven and eight rooms, one answer of the keeper being turned about: no house has it so."""
        for house in (T, SPIDER, three_arms((2, 2, 3)), LONG):
            asked = Asked(lambda ledger, house=house: is_full(house, ledger))
            told_back(house.rooms(), asked)
            for at in range(0, len(asked.records), 1 + len(asked.records) // 25):
                turned = asked.records[at][0]
                wrong = Asked(lambda ledger, house=house: is_full(house, ledger) != (ledger == turned))
                try:
                    other = told_back(house.rooms(), wrong)
                except NoHouse as error:
                    self.assertEqual(error.records, wrong.records)
                else:
                    for ledger, truth in wrong.records:
                        self.assertIs(is_full(other, ledger), truth)

    def test_every_answer_of_three_rooms(self):
        for bits in product((True, False), repeat=9):
            answers = list(bits)
            asked = Asked(lambda ledger: answers.pop())
            there = all_houses(list("abc"))
            try:
                told = told_back(list("abc"), asked)
                self.assertTrue(all(is_full(told, ledger) == truth for ledger, truth in asked.records))
            except NoHouse:
                fits = [house for house in there
                        if all(is_full(house, ledger) == truth for ledger, truth in asked.records)]
                self.assertEqual(fits, [])

    def test_keepers_that_tell_always_the_same(self):
        for rooms in (["a"], ["a", "b"], list("abc")):
            house = told_back(rooms, lambda ledger: True)
            self.assertEqual(house, plain_twin(all_houses(rooms)[0]))
            self.check_error(NoHouse, {}, told_back, rooms, lambda ledger: False)
        self.assertEqual(told_back(list("dbca"), lambda ledger: True).doors(), [("a", "b"), ("a", "c"), ("b", "d")])

    def test_errors(self):
        for thing in any_objects():
            if not isinstance(thing, (list, tuple)) or not thing:
                self.check_error(BadRooms, {"index": 0}, told_back, thing, None)
        self.check_error(BadRooms, {"index": 2}, told_back, ["a", "b", "a", "A"], None)
        self.check_error(BadRooms, {"index": 1}, told_back, ["a", "B"], None)
        self.check_things(BadKeeper, no_functions(), told_back, ["a", "b"], None)
        for thing in any_objects():
            if not isinstance(thing, bool):
                self.check_error(NoTruth, {"thing": thing}, told_back, ["a", "b", "c"], lambda ledger: thing)
        answers = [True, True, None, 5]
        self.check_error(NoTruth, {"thing": None}, told_back, list("abc"), lambda ledger: answers.pop(0))
        self.assertEqual(answers, [5])

    def test_what_a_keeper_raises(self):
        def keeper(ledger):
            raise Wrong()

        with self.assertRaises(Wrong):
            told_back(["a"], keeper)

    def test_kept(self):
        rooms = ["c", "a", "b"]
        first = told_back(rooms, lambda ledger: ledger["b"] > 0)
        self.assertEqual((first, rooms), (told_back(("c", "a", "b"), lambda ledger: True), ["c", "a", "b"]))


if __name__ == "__main__":
    unittest.main()
