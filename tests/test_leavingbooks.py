"""[113], and [116] on it: books of rooms."""

import random
import unittest
from itertools import product

from lamplight.errors import BadBooks, BadCarrying, NoRoom
from lamplight.leavingbooks import book_ends, books_of, read_from
from tests.brute import EXAMPLE, ONE_ROOM, TWO_ROOMS, any_objects, great_houses, rows, small_houses, star_house
from tests.checks import Checks, no_rooms
from tests.test_entrystamps import CARRYING, lighting

BOOKS = {"a": ["b"], "b": ["c", "d"], "c": ["b"], "d": []}


def books_by(house, walk):
    told = {room: [] for room in house.rooms()}
    for one, other in zip(walk, walk[1:]):
        if one != other:
            told[one].append(other)
    return told


def read_by(books, first):
    left = {room: list(books[room]) for room in sorted(books)}
    walk = [first]
    while left[walk[-1]]:
        walk.append(left[walk[-1]].pop(0))
    return walk, {room: left[room] for room in left if left[room]}


def is_end_by_rule(house, books, first, last):
    """[113]'s rule, word by word."""
    comings = {room: sum(book.count(room) for book in books.values()) for room in books}
    for room in books:
        if len(books[room]) - comings[room] != (room == first) - (room == last):
            return False
        if room != last and books[room] and books[room][-1] not in towards_room(house, room, last):
            return False
    there = [room for room in books if books[room] or comings[room] or room == first]
    found = [first]
    for room in found:
        found += [other for other in there if other not in found and (other in books[room] or room in books[other])]
    return len(found) == len(there)


def towards_room(house, room, last):
    """The one room beside room that is next on the way to last."""
    near = rows(house)
    ahead = {last: None}
    waiting = [last]
    for one in waiting:
        for other in near[one]:
            if other not in ahead:
                ahead[other] = one
                waiting.append(other)
    return [ahead[room]]


class LeavingBooksTest(Checks):
    def test_example(self):
        self.assertEqual(books_of(EXAMPLE, CARRYING), BOOKS)
        self.assertEqual(read_from(EXAMPLE, BOOKS, "a"), (["a", "b", "c", "b", "d"], {}))
        self.assertEqual(read_from(EXAMPLE, BOOKS, "b"), (["b", "c", "b", "d"], {"a": ["b"]}))
        self.assertEqual(book_ends(EXAMPLE, BOOKS), [("a", "d")])

    def test_all_carryings(self):
        for house in small_houses() + [star_house(list("cabde"))]:
            walked = lighting(house, 7 if len(house) < 4 else 9)
            for walk in walked[::1 + len(walked) // 1500]:
                books = books_by(house, walk)
                told = books_of(house, list(walk))
                self.assertEqual((told, list(told)), (books, house.rooms()))
                still = [room for at, room in enumerate(walk) if at == 0 or walk[at - 1] != room]
                self.assertEqual(read_from(house, books, walk[0]), (still, {}))
                self.assertIn((walk[0], walk[-1]), book_ends(house, books))

    def test_all_books(self):
        found = {}
        for house in small_houses():
            near = rows(house)
            most = {1: 0, 2: 4, 3: 3, 4: 2}[len(house)]
            lots = [[list(book) for many in range(most + 1) for book in product(near[room], repeat=many)]
                    for room in house.rooms()]
            for books in list(product(*lots))[::1 if len(house) < 4 else 3]:
                books = dict(zip(house.rooms(), books))
                for first in house.rooms():
                    self.assertEqual(read_from(house, books, first), read_by(books, first))
                ends = book_ends(house, books)
                by_rule = [(first, last) for first in near for last in near if is_end_by_rule(house, books, first, last)]
                self.assertEqual(ends, by_rule, (house.doors(), books))
                read = {first: read_by(books, first) for first in near}
                self.assertEqual(ends, [(first, read[first][0][-1]) for first in near if not read[first][1]])
                found[len(ends)] = found.get(len(ends), 0) + 1
        self.assertGreater(found[1], 50)
        self.assertGreater(found[2], 5)

    def test_few_rooms(self):
        self.assertEqual(books_of(ONE_ROOM, ["a", "a"]), {"a": []})
        self.assertEqual((read_from(ONE_ROOM, {"a": []}, "a"), book_ends(ONE_ROOM, {"a": ()})), ((["a"], {}), [("a", "a")]))
        empty = {"a": [], "b": []}
        self.assertEqual(book_ends(TWO_ROOMS, empty), [("a", "a"), ("b", "b")])
        self.assertEqual(read_from(TWO_ROOMS, {"b": ("a", "a"), "a": ["b"]}, "b"), (["b", "a", "b", "a"], {}))
        self.assertEqual(read_from(TWO_ROOMS, {"b": ("a", "a"), "a": []}, "a"), (["a"], {"b": ["a", "a"]}))

    def test_errors(self):
        self.check_error(BadCarrying, {"index": 3}, books_of, EXAMPLE, ["a", "b", "c", "d"])
        for thing in any_objects():
            self.check_error(BadCarrying, {"index": 1}, books_of, EXAMPLE, ["a", thing])
        self.check_error(BadCarrying, {"index": 0}, books_of, EXAMPLE, ["a", "b", "d"])
        wrong = any_objects()
        for room in BOOKS:
            wrong += [{**BOOKS, room: thing} for thing in ("b", "", None, {}, [room], ["b", None], ("zz",), 0, [["b"]])]
            wrong.append({name: BOOKS[name] for name in BOOKS if name != room})
            wrong.append({name if name != room else "zz": BOOKS[name] for name in BOOKS})
        wrong += [{**BOOKS, "zz": []}, {**BOOKS, "a": ["c"]}, list(BOOKS.items())]
        self.check_things(BadBooks, wrong, read_from, EXAMPLE, None, 5)
        self.check_things(BadBooks, wrong, book_ends, EXAMPLE, None)
        self.check_things(NoRoom, no_rooms(), read_from, EXAMPLE, BOOKS, None)

    def test_kept(self):
        books = {"d": ["b"], "c": ["b"], "a": ["b"], "b": ("c", "d")}
        self.check_kept(books_of, EXAMPLE, CARRYING)
        self.check_kept(read_from, EXAMPLE, books, "b")
        self.check_kept(book_ends, EXAMPLE, books)
        told = read_from(EXAMPLE, books, "c")
        self.assertEqual(told, (["c", "b", "c"], {"a": ["b"], "b": ["d"], "d": ["b"]}))
        self.assertEqual([list(told[1]), type(told[1]["b"])], [["a", "b", "d"], list])

    def test_great_ones(self):
        dice = random.Random(113)
        for house in great_houses(40):
            near = rows(house)
            walk = [house.rooms()[0]]
            while len(walk) <= 200:
                walk.append(dice.choice(near[walk[-1]]))
            books = books_by(house, walk)
            self.assertEqual(read_from(house, books, walk[0]), (walk, {}))
            self.assertIn((walk[0], walk[-1]), book_ends(house, books))
            self.assertEqual(book_ends(house, {**books, walk[0]: books[walk[0]] + [near[walk[0]][0]] * 2}), [])


if __name__ == "__main__":
    unittest.main()
