"""Rows of carryings that lie behind doors, by how many ends of the whole carrying are there: none, one or both."""

from lamplight.counting import add_rows, count_cut, mix
from lamplight.ways import towards


def find_ended(house, hours, root):
    """Tell of all rooms but root, which is lit, the three lists of rows that lie behind the door to them, seen from it.

    The list of an index has at k how many rows there are of k carryings that begin and end in the room, and of as
    many more as the index tells that have an end of the whole there: one ahead that begins anywhere behind the door,
    one behind that ends anywhere.
    """
    steps = towards(house, root)
    told = {}
    for room in reversed(list(steps)):
        if room != root:
            branches = [told[other] for other in house.near(room) if other != steps[room]]
            # Lit rooms hang together, so that behind a dark one all are dark.
            told[room] = ended_at(hours[room], branches) if hours[room] > 0 else ([1], [0], [0])
    return told


def ended_at(hours, branches):
    """Tell the three lists of a lit room by those of the branches behind it."""
    none, one, both = join_ended(branches, hours)
    begun = add_rows(none, one)
    # Who begins and ends behind the door leaves it once more often than there are whole rows, and comes back at last.
    return (
        [0] + [count_cut(hours, many, none) for many in range(hours)],
        [count_cut(hours, many, begun) for many in range(hours)] + [0],
        [count_cut(hours, many + 1, both) for many in range(hours - 1)] + [0, 0],
    )


def join_ended(branches, most):
    """Tell by how many visits, less than most in all, in how many ways and orders branches can be gone to.

    The first list is of visits alone, the second of those with a branch in which the whole begins, the third of those
    with both ends in branches or where these hang.
    """
    none = [1]
    one = [0]
    both = [0]
    for rows, begun, ended in branches:
        # Of two branches either can be the one in which the whole begins.
        twice = [2 * many for many in mix(one, begun, most)]
        both = add_rows(add_rows(mix(both, rows, most), twice), mix(none, ended, most))
        one = add_rows(mix(one, rows, most), mix(none, begun, most))
        none = mix(none, rows, most)
    return none, one, [at_room + 2 * outside + inside for at_room, outside, inside in zip(none, one, both)]
