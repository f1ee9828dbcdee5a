"""The readings of the rule, in all modules that have one, tell alike whether a ledger is some carrying's."""

import random
import unittest

from lamplight.added import fewest_added, is_full
from lamplight.begun import next_lit
from lamplight.boxes import box_fault, is_possible, some_ledger
from lamplight.boxcounts import count_possible
from lamplight.branches import Branch, cut_off, goes
from lamplight.ends import back_at, ends
from lamplight.errors import NotFull
from lamplight.goingon import first_carrying
from lamplight.leastledgers import least_ledgers
from lamplight.ledgers import lit_house, lit_parts
from lamplight.lodges import lodge_wanted
from lamplight.moved import fewest_moved
from lamplight.onelaw import holds, paper_of
from lamplight.ordercounts import count_orders
from lamplight.otherhouses import renamed
from lamplight.roundlamps import round_wanted
from lamplight.severallamps import lamps_wanted
from lamplight.taken import fewest_rooms, strength
from lamplight.toldends import rows_between
from tests.brute import EXAMPLE, ONE_ROOM, SPIDER, TWO_ROOMS, five_room_houses, random_house, rows, small_houses


def is_fit(call, house, ledger):
    try:
        call(house, ledger)
    except NotFull:
        return False
    return True


def readings_of_lit(house, ledger):
    """What modules that ask for all rooms lit tell of a ledger that has no dark room."""
    near = rows(house)
    least = least_ledgers(house)
    told = {
        "least ledgers": any(all(low[room] <= ledger[room] for room in low) for low in least),
        "ends": bool(ends(house, ledger)),
        "full": is_full(house, ledger),
        "added": fewest_added(house, ledger) == 0,
        "moved": fewest_moved(house, ledger) == 0,
        "rooms": fewest_rooms(house, ledger) == [[]],
        "strength": is_fit(strength, house, ledger),
    }
    for room in house.rooms():
        branches = [cut_off(house, ledger, room, other) for other in near[room]]
        branches.append(Branch(renamed(ONE_ROOM, {"a": room}), room, {}))
        # A rim alone asks for one hour less than none.
        told[f"branches at {room}"] = goes(branches, ledger[room])
    return told


def readings(house, ledger):
    """What modules tell of a ledger whose lit rooms hang together."""
    box = {room: (hours, hours) for room, hours in ledger.items()}
    inside = lit_house(house, ledger)
    pairs = [(one, other) for one in inside.rooms() for other in inside.rooms()]
    told = {
        "paper": paper_of(house, ledger) is None,
        "built": first_carrying(house, ledger) is not None,
        "possible": is_possible(house, box, ledger),
        "box fault": box_fault(house, box) is None,
        "some ledger": some_ledger(house, box) == ledger,
        "one lamp": lamps_wanted(house, ledger) == 1,
        "told ends": any(rows_between(house, ledger, [pair]) for pair in pairs),
        "lodge": any(lodge_wanted(house, ledger, room) == 1 for room in inside.rooms()),
        "orders": count_orders(house, ledger) > 0,
        "first of all": bool(next_lit(house, ledger, [])),
    }
    whole = readings_of_lit(inside, {room: ledger[room] for room in inside.rooms()})
    return {**told, **whole}


class OneRuleTest(unittest.TestCase):
    def check(self, house, ledger):
        told = holds(house, ledger)
        for reading, answer in readings(house, ledger).items():
            self.assertIs(answer, told, (reading, house.doors(), ledger))
        inside = lit_house(house, ledger)
        # Some carrying comes back just if a lamp that comes back is enough.
        back = back_at(inside, {room: ledger[room] for room in inside.rooms()})
        self.assertEqual(round_wanted(house, ledger) == 1, bool(back))
        if 0 not in ledger.values():
            box = {room: (hours, hours) for room, hours in ledger.items()}
            self.assertEqual(count_possible(house, box), int(told))
        return told

    def test_all_alike(self):
        dice = random.Random(15)
        houses = small_houses() + five_room_houses() + [SPIDER, ONE_ROOM, TWO_ROOMS, EXAMPLE]
        houses += [random_house(list("fedcba"), seed) for seed in range(6)]
        found = [0, 0]
        for house in houses:
            for _ in range(40):
                ledger = {room: dice.choice((0, 1, 1, 1, 2, 2, 3)) for room in house.rooms()}
                if any(ledger.values()) and len(lit_parts(house, ledger)) == 1:
                    found[self.check(house, ledger)] += 1
        self.assertGreater(min(found), 100)

    def test_parted(self):
        for house in five_room_houses():
            for room in house.rooms():
                ledger = {name: 4 if name != room else 0 for name in house.rooms()}
                parts = lit_parts(house, ledger)
                box = {name: (hours, hours) for name, hours in ledger.items()}
                for answer in (holds(house, ledger), paper_of(house, ledger) is None, is_possible(house, box, ledger),
                               box_fault(house, box) is None, lamps_wanted(house, ledger) == 1,
                               first_carrying(house, ledger) is not None, round_wanted(house, ledger) == 1):
                    self.assertIs(answer, len(parts) == 1)


if __name__ == "__main__":
    unittest.main()
