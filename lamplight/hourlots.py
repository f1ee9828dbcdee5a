"""How many carryings of a ledger are in which room at each hour, by what is used of its hours till then."""

from lamplight.kinds import PackageObject
from lamplight.ledgers import find_lit


class Used(PackageObject):
    """What can be used of a ledger: one number, in which the used hours of each lit room are a figure by its scale."""

    def __init__(self, house, hours):
        self.hours = {room: hours[room] for room in find_lit(house, hours)}
        self.scales = {}
        scale = 1
        for room in self.hours:
            self.scales[room] = scale
            scale *= self.hours[room] + 1
        self.steps = {}
        for room in self.hours:
            self.steps[room] = [room] + [other for other in house.near(room) if other in self.hours]

    def many(self, used, room):
        """Tell how many hours of a lit room are used."""
        return used // self.scales[room] % (self.hours[room] + 1)

    def further(self, used, room):
        """Tell the pairs (used, room) that can come an hour behind one."""
        there = [other for other in self.steps[room] if self.many(used, other) < self.hours[other]]
        return [(used + self.scales[other], other) for other in there]

    def lots(self, seen):
        """Tell, hour by hour, the dict from pairs (used, room) to how many carryings that keep seen are there so.

        The present hour is used, too; seen are rooms by hours.
        """
        ahead = self.ways_ahead(seen)
        last = len(ahead) - 1
        behind = {state: 1 for state in ahead[last]}
        told = [ahead[last]]
        for lots in reversed(ahead[:last]):
            behind = self.ways_behind(lots, behind)
            told.append({state: lots[state] * behind[state] for state in behind})
        return list(reversed(told))

    def ways_ahead(self, seen):
        """Tell, hour by hour, in how many ways the lamp can come to each pair (used, room)."""
        told = [{(self.scales[room], room): 1 for room in self.hours if seen.get(0, room) == room}]
        for hour in range(1, sum(self.hours.values())):
            lots = {}
            for (used, room), many in told[hour - 1].items():
                for state in self.further(used, room):
                    if seen.get(hour, state[1]) == state[1]:
                        lots[state] = lots.get(state, 0) + many
            told.append(lots)
        return told

    def ways_behind(self, lots, behind):
        """Tell in how many ways it can go on from the pairs of an hour, by those of the next hour: where it can."""
        told = {}
        for used, room in lots:
            many = sum([behind.get(state, 0) for state in self.further(used, room)])
            if many > 0:
                told[(used, room)] = many
        return told


def sum_where(lots, room):
    """Tell how many carryings of an hour's lots are in a room."""
    return sum([lots[state] for state in lots if state[1] == room])
