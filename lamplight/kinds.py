"""What kind of thing something is: a row, a name, a number, a function."""

from lamplight.errors import BadNumber, LampError

LETTERS = "abcdefghijklmnopqrstuvwxyz"
FIGURES = "0123456789"
LONGEST_NAME = 12


class PackageObject:
    """What every class of the package but the errors stands beneath, so that its objects are known as no functions."""


def is_row(thing):
    return isinstance(thing, (list, tuple))


def is_name(thing):
    if not isinstance(thing, str) or not 1 <= len(thing) <= LONGEST_NAME:
        return False
    return thing[0] in LETTERS and all([sign in LETTERS or sign in FIGURES for sign in thing])


def is_number(thing):
    return isinstance(thing, int) and not isinstance(thing, bool) and thing >= 0


def is_positive(thing):
    """Tell of any object whether it is an integer from 1 on."""
    return is_number(thing) and thing > 0


def is_function(thing):
    # What can be called cannot be told straight, so all else that may be passed is ruled out.
    if thing is None or isinstance(thing, (int, str, bytes, list, tuple, dict)):
        return False
    return not isinstance(thing, PackageObject) and not isinstance(thing, LampError)


def need_number(thing):
    if not is_number(thing):
        raise BadNumber(thing)


def need_positive(thing):
    if not is_positive(thing):
        raise BadNumber(thing)
