"""What the tests of several modules check alike: errors, and that nothing passed or told is kept or changed."""

import unittest

from tests.brute import any_objects


def written(thing):
    """All that a thing holds, its kinds and the order of its dicts with it, as something that does not change."""
    if isinstance(thing, dict):
        return ("dict",) + tuple((written(key), written(thing[key])) for key in thing)
    if isinstance(thing, (list, tuple)):
        return (type(thing).__name__,) + tuple(written(part) for part in thing)
    return thing


def swapped(thing):
    """The same with lists for tuples and tuples for lists at every depth, and dicts the other way round."""
    if isinstance(thing, dict):
        return {key: swapped(thing[key]) for key in reversed(list(thing))}
    if isinstance(thing, list):
        return tuple(swapped(part) for part in thing)
    if isinstance(thing, tuple):
        return [swapped(part) for part in thing]
    return thing


def spoil(thing):
    """Change all lists and dicts of a thing that was told."""
    parts = list(thing.values()) if isinstance(thing, dict) else thing
    if isinstance(thing, (list, tuple, dict)):
        for part in parts:
            spoil(part)
    if isinstance(thing, (list, dict)):
        thing.clear()


class Checks(unittest.TestCase):
    def check_error(self, error, kept, call, *arguments):
        """That just this error is raised, and keeps the values of a dict, the very objects."""
        with self.assertRaises(error) as caught:
            call(*arguments)
        self.assertIs(type(caught.exception), error)
        for name, thing in kept.items():
            if isinstance(thing, int) and not isinstance(thing, bool):
                self.assertEqual(getattr(caught.exception, name), thing)
            else:
                self.assertIs(getattr(caught.exception, name), thing)

    def check_things(self, error, things, call, *arguments):
        """That each of some things, put in the place of the argument that is None, is refused by this error."""
        for thing in things:
            self.check_error(error, {"thing": thing}, call, *[thing if each is None else each for each in arguments])

    def check_kept(self, call, *arguments):
        """That nothing passed is changed, told things are new, and lists, tuples and orders of dicts are alike."""
        before = written(arguments)
        told = call(*arguments)
        shape = written(told)
        spoil(told)
        self.assertEqual(written(call(*arguments)), shape)
        self.assertEqual(written(call(*[swapped(each) for each in arguments])), shape)
        self.assertEqual(written(arguments), before)


def wrong_ledgers(ledger):
    """Things that are no ledger of a house by a ledger of it: some of them nearly one."""
    told = [thing for thing in any_objects()]
    for room in ledger:
        told += [{**ledger, room: wrong} for wrong in (-1, True, None, "1", [1])]
        told.append({name: ledger[name] for name in ledger if name != room})
        told.append({name if name != room else "zz": ledger[name] for name in ledger})
    told += [{**ledger, "zz": 1}, {room: 0 for room in ledger}, list(ledger.items()), list(ledger)]
    return told


def dark_ledgers(ledger):
    return [{**ledger, room: 0} for room in ledger]


def no_rooms():
    return [thing for thing in any_objects() if thing != "a"]


def wrong_prices(prices):
    """Things that are no dict from the rooms of a right one to integers from 1 on."""
    return wrong_ledgers(prices) + dark_ledgers(prices)


def no_numbers(least):
    """Things that are no integer from a least one on."""
    return [thing for thing in any_objects() + [least - 1] if type(thing) is not int or thing < least]
