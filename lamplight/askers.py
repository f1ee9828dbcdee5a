"""Askers: fewest questions that tell which shape a house has, and who asks too few."""

from lamplight.errors import BadAsker, CanBeTold, NoQuestion, NothingFits
from lamplight.kinds import is_function, need_number
from lamplight.records import fitting_shapes, is_lit_ledger, need_records


def questions_left(rooms, records):
    need_records(rooms, records)
    shapes = need_fitting(rooms, records)
    return fewest_questions(find_splits(rooms, shapes), all_of(shapes), {})


def best_question(rooms, records):
    need_records(rooms, records)
    shapes = need_fitting(rooms, records)
    splits = find_splits(rooms, shapes)
    known = {}
    least = fewest_questions(splits, all_of(shapes), known)
    for ledger in all_questions(rooms):
        full = number_of_full(shapes, ledger)
        answers = [full, all_of(shapes) - full]
        if max([fewest_questions(splits, some, known) for some in answers]) < least:
            return ledger
    return None


def beat_asker(rooms, records, asker, many):
    need_records(rooms, records)
    if not is_function(asker):
        raise BadAsker(asker)
    need_number(many)
    shapes = need_fitting(rooms, records)
    splits = find_splits(rooms, shapes)
    known = {}
    left = all_of(shapes)
    if many >= fewest_questions(splits, left, known):
        raise CanBeTold()
    told = [(in_order(rooms, ledger), truth) for ledger, truth in records]
    for _ in range(many):
        question = asker(tuple([(tuple(list(ledger.items())), truth) for ledger, truth in told]))
        if not is_question(rooms, question):
            raise NoQuestion(question)
        full = number_of_full(shapes, question) & left
        truth = fewest_questions(splits, full, known) >= fewest_questions(splits, left - full, known)
        left = full if truth else left - full
        told.append((in_order(rooms, question), truth))
    fits = [shape.plain for at, shape in enumerate(shapes) if left >> at & 1]
    return (told, fits[0], fits[1])


def need_fitting(rooms, records):
    shapes = fitting_shapes(rooms, records)
    if not shapes:
        raise NothingFits()
    return shapes


def in_order(rooms, ledger):
    return {room: ledger[room] for room in sorted(rooms)}


def most_hours(rooms):
    """Tell the most hours of a room in a question."""
    return max(1, len(rooms) - 1)


def is_question(rooms, thing):
    """Tell of any object whether it is a question."""
    return is_lit_ledger(rooms, thing) and all([thing[room] <= most_hours(rooms) for room in thing])


def all_questions(rooms):
    """Tell all questions, ascending by the rows of their hours."""
    told = [{}]
    for room in sorted(rooms):
        told = [{**ledger, room: hours} for ledger in told for hours in range(1, most_hours(rooms) + 1)]
    return told


def all_of(shapes):
    """Tell the number that stands for all shapes: each lot of them is told by a number with a bit for each shape."""
    return (1 << len(shapes)) - 1


def number_of_full(shapes, ledger):
    """Tell the number of the lot of the shapes for which a ledger is full."""
    return sum([1 << at for at, shape in enumerate(shapes) if shape.is_full(ledger)])


def find_splits(rooms, shapes):
    """Tell the unlike lots of shapes for which questions are full."""
    return sorted(set([number_of_full(shapes, ledger) for ledger in all_questions(rooms)]))


def fewest_questions(splits, some, known):
    """Tell the fewest questions that part some shapes, 0 for none, whatever the answers are.

    What was found is kept in known.
    """
    if some & (some - 1) == 0:
        return 0
    if some not in known:
        known[some] = least_by_halves(splits, some, known)
    return known[some]


def least_by_halves(splits, some, known):
    # No question does better than to halve the shapes.
    fewest = (count_bits(some) - 1).bit_length()
    told = None
    for full in sorted(set([split & some for split in splits])):
        if full not in (0, some):
            yes = fewest_questions(splits, full, known)
            behind = 1 + max(yes, fewest_questions(splits, some - full, known))
            told = behind if told is None else min(told, behind)
            if told == fewest:
                break
    return told


def count_bits(number):
    told = 0
    while number > 0:
        number &= number - 1
        told += 1
    return told
