"""Vectors of boxed branches put together."""

from lamplight.errors import BadVector
from lamplight.kinds import is_number, is_row, need_number
from lamplight.wordcounts import joined_counts, raised_by, whole_by


def added_counts(one, other):
    need_vector(one)
    need_vector(other)
    return joined_counts(one, other)


def raised_counts(vector, doors, least, most):
    need_vector(vector)
    need_numbers(doors, least, most)
    # With the new door the room has one more, so that it is short with as many hours as it had doors.
    return raised_by(vector, 1 if 1 <= doors and least <= doors <= most else 0, count_from(doors + 1, least, most))


def whole_count(vector, doors, least, most):
    need_vector(vector)
    need_numbers(doors, least, most)
    return whole_by(vector, 1 if 1 < doors and least < doors <= most + 1 else 0, count_from(doors, least, most))


def need_vector(thing):
    if not is_row(thing) or len(thing) != 4 or not all([is_number(many) for many in thing]):
        raise BadVector(thing)


def need_numbers(doors, least, most):
    for thing in (doors, least, most):
        need_number(thing)


def count_from(start, least, most):
    """Tell how many integers from 1 on, from least to most, there are from start on."""
    return max(0, most - max(start, least, 1) + 1)
