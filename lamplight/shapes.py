"""Shapes: lots of twins, of which each house with some rooms is in one."""

from itertools import combinations
from lamplight.houses import House, doors_fault
from lamplight.kinds import PackageObject
from lamplight.plainhouses import find_bare, find_threes, is_full_by, plain_house


class Shape(PackageObject):
    """All houses with the same fewest hours and triples: what full ledgers cannot part."""

    def __init__(self, bare, threes):
        self.bare = bare
        self.threes = threes
        self.plain = plain_house(bare, threes)
        self.houses = []

    def is_full(self, hours):
        return is_full_by(self.bare, self.threes, hours)


def find_shapes(rooms):
    """Tell all shapes of houses with rooms, which are ascending: ascending by the doors of their plain houses."""
    found = {}
    pairs = list(combinations(rooms, 2))
    for doors in combinations(pairs, int(len(rooms) - 1)):
        # Doors less one than rooms, and no ring, join all.
        if doors_fault(rooms, doors) is None:
            house = House(rooms, doors)
            bare = find_bare(house)
            threes = find_threes(house)
            key = (tuple(list(bare.values())), tuple(threes))
            if key not in found:
                found[key] = Shape(bare, threes)
            found[key].houses.append(house)
    return sorted(list(found.values()), key=doors_of)


def doors_of(shape):
    return shape.plain.doors()
