"""What hangs on full ledgers alone is told alike of twins, and of houses with other names."""

import random
import unittest

from lamplight.added import all_added, cheapest_added, fewest_added, is_full
from lamplight.boxes import is_possible
from lamplight.houses import House
from lamplight.moved import change_table, fewest_moved, least_sum
from lamplight.otherhouses import renamed
from lamplight.records import fitting
from lamplight.taken import fewest_rooms, least_below, most_taken, strength
from lamplight.twins import bad_threes, bare_hours, plain_twin, twin_count
from tests.brute import SPIDER, all_houses, random_house, rows, small_houses
from tests.test_twins import T, twins_by_places


def pairs_of_twins():
    told = [(house, plain_twin(house)) for house in small_houses()]
    told += [(T, House(T.rooms(), doors)) for doors in sorted(twins_by_places(T))]
    told += [(SPIDER, House(SPIDER.rooms(), doors)) for doors in sorted(twins_by_places(SPIDER))[::2]]
    for seed in range(25):
        house = random_house(list("hgfedcba"), seed)
        told.append((house, plain_twin(house)))
    return told


def shown_by(house, ledger, prices):
    """All that hangs on full ledgers alone."""
    told = [fewest_added(house, ledger), all_added(house, ledger), cheapest_added(house, ledger, prices),
            fewest_moved(house, ledger), change_table(house, ledger), fewest_rooms(house, ledger), least_sum(house),
            is_full(house, ledger)]
    if told[-1]:
        told += [most_taken(house, ledger), least_below(house, ledger), strength(house, ledger)]
    return told


class OneShapeTest(unittest.TestCase):
    def test_twins(self):
        dice = random.Random(95)
        found = {True: 0, False: 0}
        for one, other in pairs_of_twins():
            for _ in range(15):
                ledger = {room: max(0, len(near) - dice.choice((2, 1, 0, 0, 0, 0, -1))) for room, near in rows(one).items()}
                prices = {room: dice.randrange(1, 5) for room in ledger}
                if any(ledger.values()):
                    told = shown_by(one, ledger, prices)
                    self.assertEqual(told, shown_by(other, ledger, prices), (one.doors(), other.doors(), ledger))
                    found[told[7]] += 1
        self.assertGreater(min(found.values()), 30)

    def test_other_names(self):
        for seed in range(30):
            house = random_house(list("hgfedcba"), seed)
            dice = random.Random(seed)
            names = dict(zip(house.rooms(), dice.sample(house.rooms(), len(house))))
            other = renamed(house, names)
            self.assertEqual(twin_count(other), twin_count(house))
            self.assertEqual(bare_hours(other), {names[room]: hours for room, hours in bare_hours(house).items()})
            self.assertEqual(bad_threes(other),
                             sorted(tuple(sorted(names[room] for room in three)) for three in bad_threes(house)))

    def test_records_of_what_is_full(self):
        """Houses fit the records of what is full for one of them; so does each twin, and its box of single hours."""
        dice = random.Random(100)
        for house in all_houses(list("abcd")):
            records = []
            for _ in range(6):
                ledger = {room: dice.choice((1, 1, 2, 3)) for room in house.rooms()}
                box = {room: (hours, hours) for room, hours in ledger.items()}
                self.assertEqual(is_full(house, ledger), is_possible(house, box, ledger))
                records.append((ledger, is_full(house, ledger)))
            self.assertIn(plain_twin(house), fitting(house.rooms(), records))


if __name__ == "__main__":
    unittest.main()
