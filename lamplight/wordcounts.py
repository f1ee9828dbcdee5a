"""How many ledgers branches have by where their short rooms lie, seen from the room in which the branches hang.

Such numbers are rows of four: how many ledgers have no short rooms, short rooms on a way from this room, on a way
through it, on a way that passes it by. Short rooms on no way are no carrying's, and not counted.
"""


def joined_counts(one, other):
    """Tell the row of two lots of branches that hang in one room."""
    return (
        one[0] * other[0],
        one[0] * other[1] + one[1] * other[0],
        one[0] * other[2] + one[2] * other[0] + one[1] * other[1],
        one[0] * other[3] + one[3] * other[0],
    )


def raised_by(row, short, others):
    """Tell the row, seen from a room further off, of a room with branches that is short or not in so many ways."""
    none, ended, through, inside = row
    return (others * none, others * ended + short * (none + ended), 0, others * (through + inside) + short * through)


def whole_by(row, short, others):
    """Tell how many ledgers there are, the room with branches being short or not in so many ways."""
    none, ended, through, inside = row
    return (short + others) * (none + ended + through) + others * inside
