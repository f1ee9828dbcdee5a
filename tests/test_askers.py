"""[102], [103], and [104] on them: fewest questions, and askers that ask too few."""

import random
import unittest
from itertools import product

from lamplight.added import is_full
from lamplight.askers import beat_asker, best_question, questions_left
from lamplight.errors import BadAsker, BadNumber, BadRecords, BadRooms, CanBeTold, NoQuestion, NothingFits
from lamplight.records import fitting
from lamplight.twins import plain_twin
from tests.brute import all_houses, any_objects, no_functions
from tests.checks import Checks, no_numbers
from tests.test_records import houses_that_fit, random_records

ONES = {room: 1 for room in "abcd"}
CALLS = (questions_left, best_question)


class Wrong(Exception):
    pass


def questions(names):
    most = max(1, len(names) - 1)
    return [dict(zip(sorted(names), row)) for row in product(range(1, most + 1), repeat=len(names))]


class Plainly:
    """Fewest questions by trying all of them, answers and plain twins being gone through."""

    def __init__(self, names):
        plain = []
        for house in all_houses(names):
            if plain_twin(house) not in plain:
                plain.append(plain_twin(house))
        self.plain = sorted(plain, key=lambda house: house.doors())
        self.asked = questions(names)
        self.full = [tuple(at for at, house in enumerate(self.plain) if is_full(house, ledger)) for ledger in self.asked]
        self.known = {}

    def fit(self, records):
        return tuple(at for at, house in enumerate(self.plain) if houses_that_fit([house], records))

    def left(self, some):
        if len(some) < 2:
            return len(some) - 1
        if some not in self.known:
            self.known[some] = min(self.behind(some, full) for full in set(self.full)
                                   if 0 < len(set(some) & set(full)) < len(some))
        return self.known[some]

    def behind(self, some, full):
        return 1 + max(self.left(tuple(at for at in some if (at in full) == truth)) for truth in (True, False))

    def first(self, some):
        if len(some) == 1:
            return None
        for ledger, full in zip(self.asked, self.full):
            if 0 < len(set(some) & set(full)) < len(some) and self.behind(some, full) == self.left(some):
                return ledger
        raise AssertionError("no question")


PLAINLY = {many: Plainly(list("abcde")[:many]) for many in range(1, 6)}


class AskersTest(Checks):
    def test_example(self):
        self.assertEqual(questions_left(list("abcd"), [(ONES, True)]), 0)
        self.assertEqual(questions_left(list("abcd"), [(ONES, False)]), 2)
        self.assertEqual(best_question(list("abcd"), [(ONES, False)]), {"a": 1, "b": 1, "c": 2, "d": 2})
        self.assertIsNone(best_question(list("abcd"), [(ONES, True)]))

    def test_nothing_known(self):
        self.assertEqual([questions_left(list("edcba")[-many:], []) for many in (1, 2, 3, 4, 5)], [0, 0, 0, 3, 4])
        self.assertEqual([best_question(list("abc")[:many], []) for many in (1, 2, 3)], [None] * 3)

    def test_all_askings(self):
        dice = random.Random(102)
        found = {}
        for many in (1, 2, 3, 4, 4, 4, 5):
            names = list("edcba")[-many:]
            plainly = PLAINLY[many]
            for _ in range(25):
                records = random_records(dice, names, dice.randrange(6))
                some = plainly.fit(records)
                if not some:
                    for call in CALLS:
                        self.check_error(NothingFits, {}, call, names, records)
                    continue
                self.assertEqual(questions_left(names, records), plainly.left(some))
                told = best_question(names, records)
                self.assertEqual(told, plainly.first(some))
                self.assertTrue(told is None or list(told) == sorted(names))
                found[plainly.left(some)] = found.get(plainly.left(some), 0) + 1
        self.assertGreater(len(found), 3)

    def test_the_first_asker(self):
        """Who asks the best question each time always knows behind so many, whatever is answered."""
        for names in (list("abcd"), list("abcde")):
            waiting = [[]]
            while waiting:
                records = waiting.pop()
                left = questions_left(names, records)
                if left == 0:
                    self.assertEqual(len(fitting(names, records)), 1)
                    continue
                question = best_question(names, records)
                for truth in (True, False):
                    further = records + [(question, truth)]
                    self.assertTrue(fitting(names, further))
                    self.assertLess(questions_left(names, further), left)
                    waiting.append(further)
                if len(names) > 4:
                    # One answer alone, so that this does not take long.
                    waiting = waiting[-1:]

    def test_beaten(self):
        dice = random.Random(103)
        for many in (4, 4, 5):
            names = list("edcba")[-many:]
            plainly = PLAINLY[many]
            for _ in range(12):
                known = random_records(dice, names, dice.choice((0, 1, 2)))
                some = plainly.fit(known)
                if not some:
                    self.check_error(NothingFits, {}, beat_asker, names, known, lambda records: None, 0)
                    continue
                for number in range(plainly.left(some)):
                    handed = []

                    def asker(records):
                        handed.append(records)
                        return dice.choice(plainly.asked)

                    records, one, other = beat_asker(names, known, asker, number)
                    self.check_answers(plainly, known, records, number)
                    told = [tuple((tuple(ledger.items()), truth) for ledger, truth in records[:at])
                            for at in range(len(known), len(records))]
                    self.assertEqual(handed, told)
                    self.assertEqual([one, other], fitting(names, records)[:2])
                self.check_error(CanBeTold, {}, beat_asker, names, known, lambda records: None, plainly.left(some))
                self.check_error(CanBeTold, {}, beat_asker, names, known, lambda records: None, 99)

    def check_answers(self, plainly, known, records, number):
        """That each answer leaves more questions, True if alike, and records are told as the document says."""
        self.assertEqual(type(records), list)
        self.assertEqual(len(records), len(known) + number)
        for ledger, truth in records:
            self.assertEqual((list(ledger), type(truth)), (sorted(ledger), bool))
        self.assertEqual([(ledger, truth) for ledger, truth in records[:len(known)]],
                         [(ledger, truth) for ledger, truth in known])
        for at in range(len(known), len(records)):
            ledger, truth = records[at]
            left = {each: plainly.left(plainly.fit(records[:at] + [(ledger, each)])) for each in (True, False)}
            self.assertIs(truth, left[True] >= left[False])

    def test_questions_that_tell_nothing(self):
        ones = {room: 1 for room in "abcd"}
        records, one, other = beat_asker(list("abcd"), [], lambda records: {room: 3 for room in "dcba"}, 2)
        self.assertEqual(records, [({room: 3 for room in "abcd"}, True)] * 2)
        self.assertEqual([one, other], fitting(list("abcd"), [])[:2])
        records, _, _ = beat_asker(list("abcd"), [(ones, False)], lambda records: ones, 1)
        self.assertEqual(records, [(ones, False), (ones, False)])
        self.assertIsNot(records[0][0], ones)
        records, one, other = beat_asker(list("abcd"), [], lambda records: None, 0)
        self.assertEqual((records, [one, other]), ([], fitting(list("abcd"), [])[:2]))

    def test_handed_and_told(self):
        handed = []

        def asker(records):
            handed.append(records)
            return {"d": 1, "c": 1, "b": 2, "a": 2}

        known = [[{"d": 1, "c": 1, "b": 1, "a": 1}, False]]
        records, _, _ = beat_asker(tuple("dcba"), known, asker, 1)
        self.assertEqual(handed, [((tuple(zip("abcd", (1, 1, 1, 1))), False),)])
        self.assertEqual([type(record) for record in records], [tuple, tuple])
        self.assertEqual([list(ledger) for ledger, _ in records], [list("abcd")] * 2)
        records[0][0].clear()
        self.assertEqual(known, [[{"d": 1, "c": 1, "b": 1, "a": 1}, False]])

    def test_errors(self):
        for call, more in [(call, []) for call in CALLS] + [(beat_asker, [None, -1])]:
            self.check_error(BadRooms, {"index": 0}, call, [], None, *more)
            self.check_error(BadRooms, {"index": 1}, call, ["a", "A"], None, *more)
            for thing in any_objects():
                if not isinstance(thing, (list, tuple)):
                    self.check_error(BadRecords, {"index": 0}, call, list("abcd"), thing, *more)
                self.check_error(BadRecords, {"index": 1}, call, list("abcd"), [(ONES, True), thing], *more)
        clash = [(ONES, True), (ONES, False)]
        self.check_things(BadAsker, no_functions(), beat_asker, list("abcd"), clash, None, -1)
        self.check_things(BadNumber, no_numbers(0), beat_asker, list("abcd"), clash, len, None)
        self.check_error(NothingFits, {}, beat_asker, list("abcd"), clash, len, 99)
        self.check_error(CanBeTold, {}, beat_asker, list("abcd"), [], len, 3)
        self.check_error(CanBeTold, {}, beat_asker, list("abc"), [], len, 0)

    def test_no_questions(self):
        things = any_objects() + [{**ONES, "a": wrong} for wrong in (0, 4, True, "1", None, -1)]
        things += [{"a": 1, "b": 1, "c": 1}, {**ONES, "e": 1}, list(ONES.items()), {"a": 1, "b": 1, "c": 1, "e": 1}]
        for thing in things:
            self.check_error(NoQuestion, {"thing": thing}, beat_asker, list("abcd"), [], lambda records: thing, 2)
            answers = [thing, {room: 2 for room in "abcd"}]
            self.check_error(NoQuestion, {"thing": thing}, beat_asker, list("abcd"), [], lambda records: answers.pop(), 2)

    def test_what_an_asker_raises(self):
        def asker(records):
            raise Wrong()

        with self.assertRaises(Wrong):
            beat_asker(list("abcd"), [], asker, 1)

    def test_kept(self):
        known = [({"d": 1, "c": 1, "b": 1, "a": 1}, False)]
        self.check_kept(questions_left, list("dcba"), known)
        self.check_kept(best_question, list("dcba"), known)


if __name__ == "__main__":
    unittest.main()
