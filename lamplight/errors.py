"""The errors of the package, each one right beneath LampError.

An error keeps what it was made with under the names of its parameters:
thing is what was passed and is refused, index the place of the first wrong
thing in a list, line a line of a text counted from 1; name, room, one and
other are rooms; the points of the document tell of the rest.
"""


class LampError(ValueError):
    """What every error of the package is."""


class BadAsker(LampError):
    def __init__(self, thing):
        self.thing = thing


class BadBegun(LampError):
    def __init__(self, index):
        self.index = index


class BadBooks(LampError):
    def __init__(self, thing):
        self.thing = thing


class BadBox(LampError):
    def __init__(self, thing):
        self.thing = thing


class BadBoxed(LampError):
    def __init__(self, thing):
        self.thing = thing


class BadBranch(LampError):
    def __init__(self, thing):
        self.thing = thing


class BadBranches(LampError):
    def __init__(self, index):
        self.index = index


class BadCarrying(LampError):
    def __init__(self, index):
        self.index = index


class BadCounted(LampError):
    def __init__(self, thing):
        self.thing = thing


class BadDeed(LampError):
    def __init__(self, thing):
        self.thing = thing


class BadDoor(LampError):
    def __init__(self, thing):
        self.thing = thing


class BadDoors(LampError):
    def __init__(self, index):
        self.index = index


class BadEnds(LampError):
    def __init__(self, index):
        self.index = index


class BadHour(LampError):
    def __init__(self, thing):
        self.thing = thing


class BadHours(LampError):
    def __init__(self, thing):
        self.thing = thing


class BadIndex(LampError):
    def __init__(self, thing):
        self.thing = thing


class BadJudge(LampError):
    def __init__(self, thing):
        self.thing = thing


class BadKeeper(LampError):
    def __init__(self, thing):
        self.thing = thing


class BadKnown(LampError):
    def __init__(self, thing):
        self.thing = thing


class BadLeavings(LampError):
    def __init__(self, thing):
        self.thing = thing


class BadLedger(LampError):
    def __init__(self, thing):
        self.thing = thing


class BadLighter(LampError):
    def __init__(self, thing):
        self.thing = thing


class BadLots(LampError):
    def __init__(self, index):
        self.index = index


class BadMarks(LampError):
    def __init__(self, thing):
        self.thing = thing


class BadName(LampError):
    def __init__(self, thing):
        self.thing = thing


class BadNames(LampError):
    def __init__(self, thing):
        self.thing = thing


class BadNumber(LampError):
    def __init__(self, thing):
        self.thing = thing


class BadOrder(LampError):
    def __init__(self, index):
        self.index = index


class BadPasses(LampError):
    def __init__(self, thing):
        self.thing = thing


class BadPrices(LampError):
    def __init__(self, thing):
        self.thing = thing


class BadQuestion(LampError):
    def __init__(self, thing):
        self.thing = thing


class BadRecords(LampError):
    def __init__(self, index):
        self.index = index


class BadRim(LampError):
    def __init__(self, thing):
        self.thing = thing


class BadRooms(LampError):
    def __init__(self, index):
        self.index = index


class BadSeen(LampError):
    def __init__(self, thing):
        self.thing = thing


class BadSome(LampError):
    def __init__(self, index):
        self.index = index


class BadSums(LampError):
    def __init__(self, index):
        self.index = index


class BadText(LampError):
    def __init__(self, line):
        self.line = line


class BadVector(LampError):
    def __init__(self, thing):
        self.thing = thing


class BadWhen(LampError):
    def __init__(self, thing):
        self.thing = thing


class BadWords(LampError):
    def __init__(self, index):
        self.index = index


class CanBeTold(LampError):
    pass


class CommonRoom(LampError):
    def __init__(self, name):
        self.name = name


class InUse(LampError):
    def __init__(self, question):
        self.question = question


class IsWatched(LampError):
    def __init__(self, thing):
        self.thing = thing


class LampStands(LampError):
    def __init__(self, name):
        self.name = name


class NeverSo(LampError):
    pass


class NoCarrying(LampError):
    def __init__(self, paper):
        self.paper = paper


class NoCount(LampError):
    def __init__(self, thing):
        self.thing = thing


class NoDoor(LampError):
    def __init__(self, one, other):
        self.one = one
        self.other = other


class NoHouse(LampError):
    def __init__(self, records):
        self.records = records


class NoLamp(LampError):
    pass


class NoQuestion(LampError):
    def __init__(self, thing):
        self.thing = thing


class NoRoom(LampError):
    def __init__(self, thing):
        self.thing = thing


class NoSuch(LampError):
    def __init__(self, thing):
        self.thing = thing


class NoTruth(LampError):
    def __init__(self, thing):
        self.thing = thing


class NotDark(LampError):
    def __init__(self, name):
        self.name = name


class NotFull(LampError):
    def __init__(self, thing):
        self.thing = thing


class NotJoined(LampError):
    def __init__(self, room):
        self.room = room


class NotLeaf(LampError):
    def __init__(self, name):
        self.name = name


class NotOneDoor(LampError):
    def __init__(self, thing):
        self.thing = thing


class NotPossible(LampError):
    pass


class NotWatched(LampError):
    def __init__(self, thing):
        self.thing = thing


class NothingFits(LampError):
    pass


class SameRoom(LampError):
    def __init__(self, thing):
        self.thing = thing


class TakenRoom(LampError):
    def __init__(self, name):
        self.name = name


class TooMany(LampError):
    def __init__(self, hours):
        self.hours = hours


class UnlikeDoors(LampError):
    pass


class UnlikeRooms(LampError):
    def __init__(self, room):
        self.room = room


class WouldChange(LampError):
    def __init__(self, question):
        self.question = question
