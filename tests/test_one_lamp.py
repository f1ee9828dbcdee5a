"""First and last rooms, passes and numbers of carryings are told alike by all modules that tell of them."""

import unittest
from fractions import Fraction

from lamplight.boxends import box_ends, door_passes
from lamplight.counting import count_between, count_carryings, ends_table, rows_behind
from lamplight.doorcounts import counted_carrying, counters, ends_by_counters
from lamplight.endchances import door_chances, ends_chances, first_chances, mean_passes, mean_stays
from lamplight.ends import back_at, carrying_between, ends, lasts
from lamplight.entrystamps import first_by_entries, entries, lasts_by_stamps, stamps
from lamplight.goingon import next_rooms
from lamplight.hourchances import hour_chances, room_chances
from lamplight.leavingbooks import book_ends, books_of
from lamplight.lightchances import ahead_chance, light_chances
from lamplight.lodges import lodge_wanted
from lamplight.numbering import carrying_at, carrying_number, count_begun
from lamplight.orderends import ends_by_light
from lamplight.roundlamps import round_wanted
from lamplight.seenchances import last_given, seen_chance
from lamplight.somecounted import moves_between, possible_counters, possible_moves
from lamplight.stamped import ends_by_all, ends_by_stamps, stamped_carrying
from lamplight.toldends import rows_between
from tests.brute import EXAMPLE, ONE_ROOM, SPIDER, TWO_ROOMS, random_ledgers, rows
from tests.test_entrystamps import all_marks


def cases():
    """Pairs of a house and a ledger of some carrying that lights all rooms."""
    told = [(EXAMPLE, {"a": 1, "b": 3, "c": 1, "d": 1}), (ONE_ROOM, {"a": 3}), (TWO_ROOMS, {"a": 1, "b": 3}),
            (SPIDER, {room: 3 if room == "c" else 2 for room in SPIDER.rooms()})]
    told += random_ledgers(36, 12, (3, 4, 5), 10) + random_ledgers(40, 8, (6, 7), 13)
    return [(house, ledger) for house, ledger in told if ends(house, ledger)]


class OneLampTest(unittest.TestCase):
    def test_ends(self):
        for house, ledger in cases():
            pairs = ends(house, ledger)
            self.assertEqual(list(ends_table(house, ledger)), pairs)
            self.assertEqual(list(ends_chances(house, ledger)), pairs)
            self.assertEqual(box_ends(house, {room: (hours, hours) for room, hours in ledger.items()}), pairs)
            firsts = sorted({first for first, _ in pairs})
            last_hour = sum(ledger.values()) - 1
            self.assertEqual(next_rooms(house, ledger, []), firsts)
            for told in (first_chances(house, ledger), hour_chances(house, ledger, 0),
                         hour_chances(house, ledger, last_hour)):
                self.assertEqual(list(told), firsts)
            for room in house.rooms():
                self.assertEqual(lodge_wanted(house, ledger, room) == 1, room in firsts)
                if room in firsts:
                    self.assertEqual(list(last_given(house, ledger, {0: room})), lasts(house, ledger, room))
                for other in house.rooms():
                    self.check_pair(house, ledger, (room, other), (room, other) in pairs)
            back = [first for first, last in pairs if first == last]
            self.assertEqual((back_at(house, ledger), round_wanted(house, ledger) == 1), (back, bool(back)))
            leaves = [room for room, near in rows(house).items() if len(near) == 1]
            lit_last = [(first, last) for first, last in pairs if last in leaves and first != last]
            self.assertEqual(ends_by_light(house, ledger), lit_last if len(house) > 1 else pairs)

    def check_pair(self, house, ledger, pair, there):
        self.assertEqual(rows_between(house, ledger, [pair]) is not None, there)
        self.assertEqual(moves_between(house, ledger, *pair) != [], there)
        carrying = carrying_between(house, ledger, *pair)
        self.assertEqual(carrying is not None, there)
        if there:
            marks, counted = stamps(house, carrying), counters(house, carrying)
            for told in (ends_by_stamps(house, ledger, marks), ends_by_counters(house, ledger, counted),
                         ends_by_all(house, ledger, marks, counted), book_ends(house, books_of(house, carrying))):
                self.assertIn(pair, told)
            self.assertEqual(first_by_entries(house, entries(house, carrying)), pair[0])
            self.assertIn(pair[1], lasts_by_stamps(house, marks))
            self.assertEqual(stamps(house, stamped_carrying(house, ledger, marks)), marks)
            self.assertEqual(counters(house, counted_carrying(house, ledger, counted)), counted)

    def test_ends_by_all_stamps(self):
        """The pairs by some stamps are all pairs."""
        for house, ledger in cases():
            if len(house) < 6:
                told = {pair for marks in all_marks(house) for pair in ends_by_stamps(house, ledger, marks)}
                self.assertEqual(sorted(told), ends(house, ledger))

    def test_passes(self):
        for house, ledger in cases():
            box = {room: (hours, hours) for room, hours in ledger.items()}
            for one, other in house.doors():
                told = door_chances(house, ledger, one, other)
                self.assertEqual(list(told), possible_counters(house, ledger, {}, (one, other)))
                self.assertEqual(list(told), door_passes(house, box, one, other))
            moves = possible_moves(house, ledger)
            mean = sum(Fraction(*each) for each in mean_passes(house, ledger).values())
            self.assertTrue(moves[0] <= mean <= moves[-1])
            # A stay more than moves.
            self.assertEqual(sum(Fraction(*each) for each in mean_stays(house, ledger).values()), mean + 1)

    def test_numbers(self):
        for house, ledger in cases():
            many = count_carryings(house, ledger)
            table = ends_table(house, ledger)
            self.assertEqual(sum(table.values()), many)
            self.assertEqual(carrying_number(house, carrying_at(house, ledger, many - 1)), many - 1)
            for pair, told in ends_chances(house, ledger).items():
                self.assertEqual(Fraction(*told) * many, count_between(house, ledger, *pair))
            for room in house.rooms():
                begun = count_begun(house, ledger, [room])
                self.assertEqual(Fraction(*room_chances(house, ledger, room)[0]) * many, begun)
                self.assertEqual(Fraction(*seen_chance(house, ledger, {0: room})) * many, begun)
                self.assertEqual(Fraction(*light_chances(house, ledger, room).get(0, (0, 1))) * many, begun)
                self.assertEqual(Fraction(*first_chances(house, ledger).get(room, (0, 1))) * many, begun)
                for other in rows(house)[room]:
                    # Of two rooms beside one another one is lit ahead just if the whole begins on its side.
                    side = [first for first in house.rooms() if first in behind_door(house, other, room)]
                    ahead = sum(count_begun(house, ledger, [first]) for first in side)
                    self.assertEqual(Fraction(*ahead_chance(house, ledger, room, other)) * many, ahead)
                    self.assertEqual(len(rows_behind(house, ledger, room, other)[0]), ledger[other] + 1)


def behind_door(house, room, other):
    """The rooms to which ways from room lead through its door to other."""
    near = rows(house)
    told = [other]
    for one in told:
        told += [each for each in near[one] if each not in told and (one, each) != (other, room)]
    return told


if __name__ == "__main__":
    unittest.main()
