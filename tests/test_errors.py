"""[4] and the interface's list of errors."""

import inspect
import unittest

from lamplight import errors
from tests.brute import any_objects

THING = """BadAsker BadBooks BadBox BadBoxed BadBranch BadCounted BadDeed BadDoor BadHour BadHours BadJudge BadKeeper
    BadKnown BadLeavings BadLedger BadLighter BadMarks BadName BadNames BadNumber BadPasses BadPrices BadQuestion
    BadRim BadSeen BadVector BadWhen IsWatched NoCount NoQuestion NoRoom NoSuch NoTruth NotFull NotOneDoor NotWatched
    SameRoom BadIndex""".split()
INDEX = """BadBegun BadBranches BadCarrying BadDoors BadEnds BadLots BadOrder BadRecords BadRooms BadSome BadSums
    BadWords""".split()
NAME = "CommonRoom LampStands NotDark NotLeaf TakenRoom".split()
NONE = "CanBeTold NeverSo NoLamp NotPossible NothingFits UnlikeDoors".split()
PARAMETERS = {
    **{name: ["thing"] for name in THING},
    **{name: ["index"] for name in INDEX},
    **{name: ["name"] for name in NAME},
    **{name: [] for name in NONE},
    "BadText": ["line"], "InUse": ["question"], "WouldChange": ["question"], "NoCarrying": ["paper"],
    "NoDoor": ["one", "other"], "NoHouse": ["records"], "NotJoined": ["room"], "UnlikeRooms": ["room"],
    "TooMany": ["hours"],
}


class ErrorsTest(unittest.TestCase):
    def test_just_these_are_there(self):
        there = [name for name, thing in vars(errors).items() if inspect.isclass(thing)]
        self.assertEqual(sorted(there), sorted(list(PARAMETERS) + ["LampError"]))
        self.assertEqual(len(there), 71)

    def test_bases(self):
        self.assertEqual(errors.LampError.__bases__, (ValueError,))
        for name in PARAMETERS:
            self.assertEqual(getattr(errors, name).__bases__, (errors.LampError,), name)
            self.assertEqual(getattr(errors, name).__module__, "lamplight.errors")

    def test_the_first_one_can_be_made_itself(self):
        self.assertIsInstance(errors.LampError(), ValueError)
        with self.assertRaises(errors.LampError):
            raise errors.LampError()

    def test_parameters(self):
        for name, parameters in PARAMETERS.items():
            if parameters:
                told = list(inspect.signature(getattr(errors, name)).parameters)
                self.assertEqual(told, parameters, name)
            else:
                self.assertIsInstance(getattr(errors, name)(), errors.LampError)

    def test_the_very_objects_are_kept(self):
        for name, parameters in PARAMETERS.items():
            for thing in any_objects():
                things = [[thing], {"x": thing}][:len(parameters)]
                error = getattr(errors, name)(*things)
                by_name = getattr(errors, name)(**dict(zip(parameters, things)))
                for parameter, kept in zip(parameters, things):
                    self.assertIs(getattr(error, parameter), kept)
                    self.assertIs(getattr(by_name, parameter), kept)


if __name__ == "__main__":
    unittest.main()
