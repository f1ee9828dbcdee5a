"""[100], [101], and [104] on them: records, and the houses that fit them."""

import random
import unittest
from itertools import combinations

from lamplight.added import is_full
from lamplight.errors import BadRecords, BadRooms
from lamplight.records import fitting, hours_between, possible_doors, record_clash, sure_doors
from lamplight.twins import bare_hours, plain_twin
from tests.brute import all_houses, any_objects
from tests.checks import Checks, dark_ledgers, wrong_ledgers

CALLS = (fitting, sure_doors, possible_doors, hours_between, record_clash)
ONES = {room: 1 for room in "abcd"}


def houses_that_fit(houses, records):
    return [house for house in houses if all(is_full(house, ledger) == truth for ledger, truth in records)]


def random_records(dice, names, many):
    """Records of one house, some of them turned about."""
    house = dice.choice(all_houses(names)) if len(names) < 5 else None
    told = []
    for _ in range(many):
        ledger = {room: dice.choice((1, 1, 1, 2, 2, 3, 4)) for room in names}
        truth = dice.random() < 0.5 if house is None else is_full(house, ledger) != (dice.random() < 0.15)
        told.append((ledger, truth))
    return told


class RecordsTest(Checks):
    def test_example(self):
        straight = fitting(list("abcd"), [(ONES, True)])
        self.assertEqual([house.doors() for house in straight], [[("a", "b"), ("a", "c"), ("b", "d")]])
        self.assertEqual(len(fitting(list("abcd"), [(ONES, False)])), 4)

    def test_all_houses(self):
        dice = random.Random(100)
        sizes = {}
        for many in (1, 2, 3, 4, 4, 5):
            names = list("ebdca")[:many]
            houses = all_houses(names)
            pairs = list(combinations(sorted(names), 2))
            for _ in range(30):
                records = random_records(dice, names, dice.randrange(9))
                fits = houses_that_fit(houses, records)
                plain = sorted(set(tuple(plain_twin(house).doors()) for house in fits))
                told = fitting(names, records)
                self.assertEqual([tuple(house.doors()) for house in told], plain)
                self.assertEqual(sure_doors(names, records),
                                 [pair for pair in pairs if all(pair in house.doors() for house in fits)])
                self.assertEqual(possible_doors(names, records),
                                 [pair for pair in pairs if any(pair in house.doors() for house in fits)])
                hours = [bare_hours(house) for house in fits]
                spans = {room: (min(each[room] for each in hours), max(each[room] for each in hours))
                         for room in sorted(names)} if fits else {}
                between = hours_between(names, records)
                self.assertEqual((between, list(between)), (spans, list(spans)))
                sizes[len(plain)] = sizes.get(len(plain), 0) + 1
        self.assertGreater(len(sizes), 4)

    def test_clashes(self):
        dice = random.Random(101)
        lengths = {}
        for many in (1, 2, 3, 4, 5):
            names = list("ebdca")[:many]
            houses = all_houses(names)
            for _ in range(40):
                records = random_records(dice, names, dice.randrange(9))
                fits = [[is_full(house, ledger) == truth for ledger, truth in records] for house in houses]
                lots = [list(lot) for size in range(len(records) + 1) for lot in combinations(range(len(records)), size)]
                clashes = [lot for lot in lots if not any(all(fit[at] for at in lot) for fit in fits)]
                told = record_clash(names, records)
                self.assertEqual(told, min(clashes, key=lambda lot: (len(lot), lot), default=None))
                length = None if told is None else len(told)
                lengths[length] = lengths.get(length, 0) + 1
        self.assertGreater(min(lengths.get(length, 0) for length in (None, 1, 2)), 10)

    def test_clash_of_three(self):
        """No two of these clash: who has a room of two hours at least is no straight house of four rooms."""
        records = [({**ONES, "a": 2}, False), ({**ONES, "b": 2}, False), (ONES, False), ({**ONES, "c": 2}, False),
                   ({**ONES, "d": 2}, False)]
        self.assertEqual(record_clash(list("abcd"), records), [0, 1, 3, 4])
        self.assertIsNone(record_clash(list("abcd"), records[:4]))
        self.assertEqual(record_clash(list("abcd"), [(ONES, True), (ONES, True), (ONES, False)]), [0, 2])
        self.assertEqual(record_clash(["a"], [({"a": 1}, True), ({"a": 2}, False)]), [1])

    def test_none_fits(self):
        records = [(ONES, True), (ONES, False)]
        self.assertEqual(fitting(list("abcd"), records), [])
        self.assertEqual(sure_doors(list("dcba"), records), list(combinations("abcd", 2)))
        self.assertEqual(possible_doors(list("abcd"), records), [])
        self.assertEqual(hours_between(list("abcd"), records), {})

    def test_nothing_known(self):
        self.assertEqual([len(fitting(list("abcde")[:many], [])) for many in range(1, 6)], [1, 1, 1, 5, 11])
        for call in CALLS:
            self.assertEqual(call(["a"], []) if call != fitting else None,
                             {sure_doors: [], possible_doors: [], hours_between: {"a": (1, 1)}}.get(call))
        self.assertEqual(sure_doors(["b", "a"], []), [("a", "b")])
        self.assertEqual(hours_between(list("dcba"), []), {room: (1, 2) for room in "abcd"})

    def test_doors_of_all_houses(self):
        """Doors of twins count, not those of plain twins alone."""
        self.assertEqual(possible_doors(list("abcd"), [(ONES, True)]), list(combinations("abcd", 2)))
        self.assertEqual(sure_doors(list("abcd"), [({**ONES, "b": 2}, True), (ONES, False)]),
                         [("a", "b"), ("b", "c"), ("b", "d")])

    def test_errors(self):
        for call in CALLS:
            self.check_error(BadRooms, {"index": 0}, call, [], None)
            self.check_error(BadRooms, {"index": 2}, call, ["a", "b", "a"], None)
            for thing in any_objects():
                if not isinstance(thing, (list, tuple)):
                    self.check_error(BadRecords, {"index": 0}, call, list("abcd"), thing)
                if not isinstance(thing, bool):
                    self.check_error(BadRecords, {"index": 1}, call, list("abcd"), [(ONES, True), (ONES, thing)])
                self.check_error(BadRecords, {"index": 0}, call, list("abcd"), [thing, None])
                self.check_error(BadRecords, {"index": 2}, call, list("abcd"), ((ONES, True), [ONES, False], thing))
            for thing in wrong_ledgers(ONES) + dark_ledgers(ONES):
                self.check_error(BadRecords, {"index": 1}, call, list("abcd"), [(ONES, True), (thing, True), (1, 1)])
            self.check_error(BadRecords, {"index": 0}, call, list("abcd"), [(ONES, True, True)])

    def test_kept(self):
        records = [({"d": 1, "c": 1, "b": 2, "a": 1}, True), ({"a": 1, "b": 1, "c": 1, "d": 1}, False)]
        for call in CALLS[1:]:
            self.check_kept(call, ["d", "b", "a", "c"], records)
        first = fitting(["d", "b", "a", "c"], records)
        again = [house.doors() for house in first]
        first.clear()
        self.assertEqual([house.doors() for house in fitting(("d", "b", "a", "c"), tuple(records))], again)

    def test_great_ones(self):
        names = list("abcde")
        records = [({**{room: 1 for room in names}, room: 2}, False) for room in names] * 2
        self.assertIsNone(record_clash(names, records[:8]))
        for call in CALLS:
            call(names, records[:8])
        # The stars alone want three hours in a room.
        self.assertEqual([hours_between(names, records[:8])[room] for room in names], [(1, 3)] * 5)
        self.assertEqual(len(fitting(names, records[:8])), 5)
        three = [({**{room: 1 for room in names}, room: 3}, False) for room in names]
        self.assertEqual(record_clash(names, three + records[:3]), [0, 1, 2, 3, 4])


if __name__ == "__main__":
    unittest.main()
