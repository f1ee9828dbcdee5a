"""[95] to [98], and [104] on them: twins, what shows of houses, and plain twins."""

import random
import unittest
from itertools import combinations, permutations, product

from lamplight.added import is_full
from lamplight.errors import UnlikeRooms
from lamplight.houses import House
from lamplight.plainhouses import is_full_by
from lamplight.twins import (are_twins, bad_threes, bare_hours, parting_ledger, pieces_of, plain_twin, twin_count)
from tests.brute import (EXAMPLE, ONE_ROOM, SPIDER, TWO_ROOMS, all_houses, as_ledger, full_rows, great_houses,
                         lie_on_one_way, random_house, row_house, rows, star_house, three_arms)
from tests.checks import Checks

T = House(list("mabcxyz"), [("m", "a"), ("m", "b"), ("m", "c"), ("a", "x"), ("b", "y"), ("c", "z")])
# Two branching rooms, d and k, the piece m, c between them, pieces outwards of two rooms and of one.
LONG = House(list("abcdefghijklmn"), [
    ("d", "m"), ("m", "c"), ("c", "k"), ("d", "h"), ("h", "b"), ("b", "a"), ("d", "f"), ("f", "e"),
    ("k", "l"), ("l", "n"), ("k", "i"), ("i", "g"), ("m", "j")])


def inner(house):
    near = rows(house)
    return [room for room in near if len(near[room]) > 1]


def inner_near(house):
    near = rows(house)
    return {room: [other for other in near[room] if len(near[other]) > 1] for room in inner(house)}


def pieces_by_words(house):
    """The pieces, by trying which lots of rooms without a branching one hang together."""
    near = inner_near(house)
    branching = [room for room in near if len(near[room]) > 2]
    if not branching:
        return []
    left = [room for room in near if room not in branching]
    told = []
    while left:
        piece = [left.pop(0)]
        for room in piece:
            piece += [other for other in near[room] if other in left and other not in piece]
        left = [room for room in left if room not in piece]
        told.append(sorted(piece))
    return sorted(told)


def changed_places(house, names):
    return House(house.rooms(), [(names.get(one, one), names.get(other, other)) for one, other in house.doors()])


def doors_kept(house, other):
    return all(len(rows(house)[room]) == len(rows(other)[room]) for room in house.rooms())


def twins_by_places(house):
    """The doors of all houses that come of one with a branching room if rooms change places as [97] tells.

    Rooms that change places leave their leaves behind, so each inner order is taken with all ways to give out leaves.
    """
    near = inner_near(house)
    doors = rows(house)
    pieces = pieces_by_words(house)
    leaves = [room for room in doors if room not in near]
    told = set()
    for orders in product(*[list(permutations(piece)) for piece in pieces]):
        names = {old: new for piece, order in zip(pieces, orders) for old, new in zip(piece, order)}
        inside = [(names.get(one, one), names.get(other, other)) for one, other in house.doors()
                  if one in near and other in near]
        lack = {room: len(doors[room]) - sum(room in door for door in inside) for room in near}
        places = [room for room in near for _ in range(lack[room])]
        for order in set(permutations(places)):
            told.add(tuple(House(house.rooms(), inside + list(zip(order, leaves))).doors()))
    return told


def plain_by_words(house):
    """[98] word by word: the plain twin by the house's own doors."""
    near = rows(house)
    if len(house) < 3:
        return house
    inside = inner_near(house)
    branching = [room for room in inside if len(inside[room]) > 2]
    if branching:
        wanted = {room: len(near[room]) for room in near}
        chains = [list(pair) for pair in combinations(branching, 2) if pair[1] in near[pair[0]]]
        for piece in pieces_by_words(house):
            outer = [room for room in branching if any(room in near[other] for other in piece)]
            chains.append(outer[:1] + piece + outer[1:])
    else:
        great = [room for room in near if len(near[room]) > 2]
        others = [room for room in near if room not in great]
        # So many of the others have two doors as make all doors twice the rooms less two.
        two = 2 * len(house) - 2 - sum(len(near[room]) for room in great) - len(others)
        wanted = {room: len(near[room]) if room in great else 2 if room in others[:two] else 1 for room in near}
        chains = [[room for room in near if wanted[room] > 1]]
    doors = [door for chain in chains for door in zip(chain, chain[1:])]
    leaves = [room for room in near if wanted[room] == 1]
    for room in [each for each in near if wanted[each] > 1]:
        while sum(room in door for door in doors) < wanted[room]:
            doors.append((room, leaves.pop(0)))
    return House(house.rooms(), doors)


class TwinsTest(Checks):
    def test_example(self):
        self.assertEqual(bad_threes(T), [("a", "b", "c")])
        self.assertEqual(pieces_of(T), [["a"], ["b"], ["c"]])
        self.assertEqual(twin_count(T), 6)
        self.assertEqual(bare_hours(T), {"a": 1, "b": 1, "c": 1, "m": 2, "x": 1, "y": 1, "z": 1})

    def test_full_ledgers(self):
        """All houses of up to five rooms, and all their full ledgers of few hours, as carryings tell these."""
        for many in range(1, 6):
            hours = {1: 3, 2: 5, 3: 7, 4: 9, 5: 10}[many]
            shapes = {}
            for house in all_houses(list("edcba")[:many]):
                full = tuple(full_rows(house, hours))
                shapes.setdefault(full, []).append(house)
                bare = {room: min(row[at] for row in full) for at, room in enumerate(house.rooms())}
                self.assertEqual((bare_hours(house), list(bare_hours(house))), (bare, house.rooms()))
            for lot in shapes.values():
                plain = plain_twin(lot[0])
                self.assertIn(plain, lot)
                for house in lot:
                    self.assertEqual((plain_twin(house), twin_count(house)), (plain, len(lot)))
            for one, other in combinations(list(shapes), 2):
                ledger = as_ledger(shapes[one][0], min(set(one) ^ set(other)))
                self.assertNotEqual(is_full(shapes[one][0], ledger), is_full(shapes[other][0], ledger))
                self.check_apart(shapes[one][0], shapes[other][-1])
            for lot in shapes.values():
                self.assertIs(are_twins(lot[0], lot[-1]), True)
                self.assertIsNone(parting_ledger(lot[0], lot[-1]))

    def check_apart(self, one, other):
        self.assertIs(are_twins(one, other), False)
        ledger = parting_ledger(one, other)
        self.assertEqual(list(ledger), one.rooms())
        self.assertNotEqual(is_full(one, ledger), is_full(other, ledger))
        self.assertNotEqual(plain_twin(one), plain_twin(other))

    def test_bad_threes(self):
        houses = [T, SPIDER, LONG, ONE_ROOM, TWO_ROOMS, EXAMPLE] + great_houses(9)
        for house in houses + [random_house(list("ihgfedcba"), seed) for seed in range(20)]:
            expected = [three for three in combinations(inner(house), 3) if not lie_on_one_way(house, three)]
            self.assertEqual(bad_threes(house), expected)
            self.assertEqual({room: max(1, len(near) - 1) for room, near in rows(house).items()}, bare_hours(house))

    def test_parting_ledgers_of_threes(self):
        """Houses with the same fewest hours, so that only three rooms on no one way tell them apart."""
        dice = random.Random(95)
        names = list("abcdefgh")
        lots = {}
        for seed in range(3000):
            house = random_house(names, seed)
            shuffled = dice.sample(names, len(names))
            house = changed_places(house, dict(zip(names, shuffled)))
            lots.setdefault(tuple(bare_hours(house).items()), []).append(house)
        found = {}
        for lot in lots.values():
            for one, other in list(combinations(lot, 2))[:12]:
                same = bad_threes(one) == bad_threes(other)
                self.assertIs(are_twins(one, other), same)
                self.assertIs(plain_twin(one) == plain_twin(other), same)
                found[same] = found.get(same, 0) + 1
                if not same:
                    self.check_apart(one, other)
                else:
                    self.assertIsNone(parting_ledger(one, other))
                    for ledger in ({room: dice.choice((1, 1, 2, 3)) for room in names} for _ in range(4)):
                        self.assertEqual(is_full(one, ledger), is_full(other, ledger))
        self.assertGreater(found[False], 100)
        self.assertGreater(found[True], 100)

    def test_full_by_what_shows(self):
        """Whether a ledger is full is told by fewest hours and threes alone."""
        dice = random.Random(96)
        found = {}
        for house in [T, SPIDER, ONE_ROOM, TWO_ROOMS, EXAMPLE] + [random_house(list("hgfedcba"), seed) for seed in range(30)]:
            for _ in range(40):
                ledger = {room: max(1, len(near) - dice.choice((1, 1, 1, 0, 0, 2) if len(near) > 2 else (1, 0, 1)))
                          for room, near in rows(house).items()}
                told = is_full_by(bare_hours(house), bad_threes(house), ledger)
                self.assertIs(told, is_full(house, ledger))
                found[told] = found.get(told, 0) + 1
        self.assertGreater(min(found.values()), 100)

    def test_pieces(self):
        self.assertEqual(pieces_of(LONG), [["b", "h"], ["c", "m"], ["f"], ["i"], ["l"]])
        for house in [T, SPIDER, LONG, ONE_ROOM, TWO_ROOMS, EXAMPLE, row_house(list("bdaec")), star_house(list("cabde"))]:
            self.assertEqual(pieces_of(house), pieces_by_words(house))
        for seed in range(60):
            house = random_house([f"r{k}" for k in range(12)], seed)
            self.assertEqual(pieces_of(house), pieces_by_words(house))
        self.assertEqual([pieces_of(house) for house in (ONE_ROOM, TWO_ROOMS, EXAMPLE)], [[], [], []])

    def test_branching_houses_by_places(self):
        """[97] word by word: all houses that come of one another are twins, have one plain twin, are so many."""
        wide = House(list("mabcxyzwv"), [("m", "a"), ("m", "b"), ("m", "c"), ("a", "w"), ("w", "x"), ("b", "y"),
                                         ("c", "z"), ("w", "v")])
        double = House(list("hgfedcbaij"), [("d", "e"), ("d", "a"), ("d", "b"), ("e", "c"), ("e", "f"), ("a", "g"),
                                            ("b", "h"), ("c", "i"), ("f", "j")])
        between = House(list("abcdefghijpqx"), [("d", "p"), ("p", "q"), ("q", "e"), ("d", "a"), ("d", "b"), ("e", "c"),
                                                ("e", "f"), ("a", "g"), ("b", "h"), ("c", "i"), ("f", "j"), ("q", "x")])
        self.assertEqual(pieces_of(between), [["a"], ["b"], ["c"], ["f"], ["p", "q"]])
        alone = House(list("abcdefghijpx"), [("d", "p"), ("p", "e"), ("d", "a"), ("d", "b"), ("e", "c"), ("e", "f"),
                                             ("a", "g"), ("b", "h"), ("c", "i"), ("f", "j"), ("p", "x")])
        three = House(list("abcdefghijklm"), [("a", "b"), ("b", "c"), ("a", "d"), ("a", "e"), ("b", "f"), ("c", "g"),
                                              ("c", "h"), ("d", "i"), ("e", "j"), ("f", "k"), ("g", "l"), ("h", "m")])
        for house in (T, SPIDER, wide, three_arms((2, 3, 2)), double, between, alone, three):
            there = twins_by_places(house)
            self.assertEqual(twin_count(house), len(there))
            plain = plain_twin(house)
            self.assertIn(tuple(plain.doors()), there)
            for doors in sorted(there)[::1 + len(there) // 40]:
                other = House(house.rooms(), doors)
                self.assertIs(are_twins(house, other), True)
                self.assertIsNone(parting_ledger(house, other))
                self.assertEqual((plain_twin(other), twin_count(other)), (plain, len(there)))

    def test_all_spiders(self):
        """Of all houses that are the spider with other names, twins are just the lots that twin_count tells."""
        names = sorted(SPIDER.rooms())
        lots = {}
        seen = set()
        for order in permutations(names):
            house = changed_places(SPIDER, dict(zip(names, order)))
            if tuple(house.doors()) in seen:
                continue
            seen.add(tuple(house.doors()))
            key = (tuple(bare_hours(house).items()), tuple(bad_threes(house)))
            lots.setdefault(key, []).append(house)
        self.assertEqual(len(seen), 840)
        for lot in lots.values():
            self.assertEqual(len(lot), twin_count(lot[0]))

    def test_plain_twins(self):
        self.assertEqual(plain_twin(row_house(list("bdaec"))), House(list("abcde"), [("a", "b"), ("b", "c"), ("a", "d"),
                                                                                      ("c", "e")]))
        self.assertEqual(plain_twin(EXAMPLE), EXAMPLE)
        # Hours of e and b stay, a is the first that is in the row with them: a, b, e.
        straight = House(list("abcdefgh"), [("b", "c"), ("c", "e"), ("b", "f"), ("b", "g"), ("e", "h"), ("e", "a"),
                                            ("a", "d")])
        self.assertEqual(bare_hours(straight), {"a": 1, "b": 2, "c": 1, "d": 1, "e": 2, "f": 1, "g": 1, "h": 1})
        self.assertEqual(plain_twin(straight).doors(), [("a", "b"), ("a", "d"), ("b", "c"), ("b", "f"), ("c", "e"),
                                                        ("e", "g"), ("e", "h")])
        # Pieces: h, b, a outwards from d, where b, h have two doors; m, c between d and k.
        self.assertEqual(plain_twin(LONG).doors(), [
            ("a", "f"), ("b", "d"), ("b", "h"), ("c", "d"), ("c", "m"), ("d", "f"), ("e", "h"), ("g", "i"), ("i", "k"),
            ("j", "l"), ("k", "l"), ("k", "m"), ("m", "n")])
        self.assertEqual([plain_twin(house) for house in (ONE_ROOM, TWO_ROOMS)], [ONE_ROOM, TWO_ROOMS])
        self.assertEqual([twin_count(house) for house in (ONE_ROOM, TWO_ROOMS)], [1, 1])
        self.assertEqual([bare_hours(house) for house in (ONE_ROOM, TWO_ROOMS)], [{"a": 1}, {"a": 1, "b": 1}])

    def test_plain_twins_by_words(self):
        houses = [T, SPIDER, LONG, ONE_ROOM, TWO_ROOMS, EXAMPLE] + great_houses(9) + great_houses(12)
        houses += [house for many in (3, 4, 5) for house in all_houses(list("edcba")[:many])]
        for seed in range(300):
            dice = random.Random(seed)
            names = [f"r{k}" for k in range(dice.choice((6, 7, 8, 10, 12)))]
            houses.append(changed_places(random_house(names, seed), dict(zip(names, dice.sample(names, len(names))))))
        branching = 0
        for house in houses:
            self.assertEqual(plain_twin(house), plain_by_words(house), house.doors())
            branching += bool(pieces_of(house))
        self.assertGreater(branching, 60)

    def test_errors(self):
        pairs = [(EXAMPLE, TWO_ROOMS, "c"), (TWO_ROOMS, EXAMPLE, "c"), (row_house(list("bc")), TWO_ROOMS, "a"),
                 (TWO_ROOMS, row_house(list("bc")), "a"), (ONE_ROOM, SPIDER, "a")]
        for one, other, room in pairs:
            self.check_error(UnlikeRooms, {"room": room}, parting_ledger, one, other)
            self.assertIs(are_twins(one, other), False)

    def test_kept(self):
        for call in (bare_hours, bad_threes, pieces_of):
            for house in (T, EXAMPLE):
                self.check_kept(call, house)
        self.check_kept(parting_ledger, T, row_house(list("mabcxyz")))

    def test_great_ones(self):
        houses = great_houses(12) + [random_house([f"r{k}" for k in range(12)], seed) for seed in range(20)]
        houses += [three_arms((3, 4, 4)), three_arms((2, 2, 7))]
        for house in houses:
            plain = plain_twin(house)
            self.assertIs(are_twins(house, plain), True)
            self.assertIsNone(parting_ledger(house, plain))
            self.assertEqual((plain_twin(plain), twin_count(plain)), (plain, twin_count(house)))
            self.assertTrue(doors_kept(house, plain) or not pieces_of(house))
            self.assertEqual(pieces_of(house), pieces_of(plain) if pieces_of(house) else [])
        # A row of twelve: its ten inner rooms and two leaves are any, as are orders, a row turned about being one.
        self.assertEqual(twin_count(row_house([f"r{k}" for k in range(12)])), 239500800)
        self.assertEqual(twin_count(star_house([f"r{k}" for k in range(12)])), 1)


if __name__ == "__main__":
    unittest.main()
