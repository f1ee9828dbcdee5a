"""Homesteads as texts."""

from lamplight.errors import BadText
from lamplight.homesteads import standing_of, standing_so
from lamplight.houses import House, doors_fault
from lamplight.kinds import FIGURES, PackageObject, is_name
from lamplight.questions import is_question_of
from lamplight.standings import Standing

MOST_FIGURES = 9


def write_homestead(homestead):
    standing = standing_of(homestead)
    lines = [["room", room, str(hours)] for room, hours in standing.book.items()]
    lines += [["door", one, other] for one, other in standing.house.doors()]
    if standing.lamp is not None:
        lines.append(["lamp", standing.lamp])
    for question, held in standing.watched:
        lines.append(["hold" if held else "watch"] + [str(part) for part in question])
    return "".join([" ".join(line) + "\n" for line in lines])


def read_homestead(text):
    if not isinstance(text, str):
        raise BadText(0)
    lines = text.split("\n")
    reader = Reader()
    # Behind the last line feed there is no line.
    for index, line in enumerate(lines[:-1]):
        if not reader.take(line.split(" ")):
            raise BadText(index + 1)
    if lines[-1] != "" or not reader.is_joined():
        raise BadText(len(lines))
    return standing_so(Standing(reader.house(), reader.book, reader.lamp, reader.watched), [], [])


class Reader(PackageObject):
    """What was read of a text so far."""

    def __init__(self):
        self.book = {}
        self.doors = []
        self.lamp = None
        self.watched = []

    def take(self, parts):
        """Take a line's parts, and tell whether some text of a homestead goes on so."""
        if parts[0] == "room":
            return self.take_room(parts)
        if parts[0] == "door":
            return self.take_door(parts)
        if not self.is_joined():
            return False
        return self.take_lamp(parts) if parts[0] == "lamp" else self.take_question(parts)

    def is_joined(self):
        """Tell whether doors, of which none closes a ring, join all rooms, of which there are some."""
        return len(self.doors) == len(self.book) - 1

    def house(self):
        return House(list(self.book), self.doors)

    def take_room(self, parts):
        if self.doors or self.is_behind_doors() or len(parts) != 3 or not is_written(parts[2]):
            return False
        name = parts[1]
        if not is_name(name) or not all([room < name for room in self.book]):
            return False
        self.book[name] = int(parts[2])
        return True

    def take_door(self, parts):
        door = (parts[1], parts[2]) if len(parts) == 3 else None
        if door is None or self.is_behind_doors() or not all([each < door for each in self.doors]):
            return False
        if door[0] >= door[1] or doors_fault(list(self.book), self.doors + [door]) is not None:
            return False
        self.doors.append(door)
        return True

    def take_lamp(self, parts):
        if self.is_behind_doors() or len(parts) != 2 or parts[1] not in self.book:
            return False
        self.lamp = parts[1]
        return True

    def take_question(self, parts):
        question = tuple([int(part) if is_written(part) else part for part in parts[1:]])
        if parts[0] not in ("watch", "hold") or not is_question_of(self.house(), question):
            return False
        if question in [each for each, _ in self.watched]:
            return False
        self.watched.append((question, parts[0] == "hold"))
        return True

    def is_behind_doors(self):
        return self.lamp is not None or len(self.watched) > 0


def is_written(text):
    """Tell whether a text is a number as it is written, of few figures."""
    if not 1 <= len(text) <= MOST_FIGURES or not all([sign in FIGURES for sign in text]):
        return False
    return text == "0" or text[0] != "0"
