"""[132], and [133] on it: homesteads as texts."""

import random
import re
import unittest

from lamplight.errors import BadText, LampError
from lamplight.homesteads import Homestead
from lamplight.homesteadtexts import read_homestead, write_homestead
from lamplight.houses import House
from tests.brute import any_objects, great_houses, random_house, rows, star_house
from tests.checks import Checks
from tests.test_homesteads import ALONE, Plainly, example, random_deed, shown

NAME = "([a-z][a-z0-9]{0,11})"
NUMBER = "(0|[1-9][0-9]{0,8})"
TEXT = """room a 1
room b 1
room c 1
room d 1
door a b
door b c
door b d
watch short
hold holds
"""


def joined(rooms, doors):
    """Whether doors join all rooms; None if they close a ring."""
    parts = [{room} for room in rooms]
    for one, other in doors:
        first = [part for part in parts if one in part][0]
        if other in first:
            return None
        second = [part for part in parts if other in part][0]
        parts = [part for part in parts if part not in (first, second)] + [first | second]
    return len(parts) == 1


def fault_line(text):
    """The line of [132]'s error, None if there is none: line by line by what may stand there."""
    if not isinstance(text, str):
        return 0
    lines = text.split("\n")
    rooms, doors, watched = [], [], []
    stage = "room"
    for number, line in enumerate(lines[:-1], 1):
        word = line.split(" ")[0]
        if word == "room":
            found = re.fullmatch(f"room {NAME} {NUMBER}", line)
            right = stage == "room" and found and (not rooms or rooms[-1] < found[1])
            rooms += [found[1]] if found else []
        elif word == "door":
            found = re.fullmatch(f"door {NAME} {NAME}", line)
            right = stage in ("room", "door") and found and found[1] in rooms and found[2] in rooms
            right = right and found[1] < found[2] and (not doors or doors[-1] < found.groups())
            right = right and joined(rooms, doors + [found.groups()]) is not None
            doors += [found.groups()] if right else []
            stage = "door"
        elif word == "lamp":
            found = re.fullmatch(f"lamp {NAME}", line)
            right = stage in ("room", "door") and joined(rooms, doors) and found and found[1] in rooms
            stage = "lamp"
        else:
            found = re.fullmatch(f"(watch|hold) (holds|short|paper|added|lamps|carryings|(?:begin|doors) {NAME}"
                                 "|ledgers ([1-9]|1[0-9]|20))", line)
            right = joined(rooms, doors) and found and found[2] not in watched and found[3] in rooms + [None]
            watched += [found[2]] if found else []
            stage = "watch"
        if not right:
            return number
    return None if lines[-1] == "" and joined(rooms, doors) else len(lines)


def random_homestead(seed):
    dice = random.Random(seed)
    told = Homestead(dice.choice("am"))
    plainly = Plainly(told.now().rooms()[0])
    for _ in range(40):
        deed = random_deed(dice, plainly)
        try:
            told.do(deed)
        except LampError:
            continue
        plainly = plainly.done(deed)
    return told


def changed_texts(dice, text):
    """Texts with a line less, more, twice, turned about, with one sign otherwise, or with an end cut off."""
    lines = text.split("\n")[:-1]
    at, to = dice.randrange(len(lines)), dice.randrange(len(lines))
    other = list(lines)
    other[at], other[to] = other[to], other[at]
    told = [lines[:at] + lines[at + 1:], lines[:at] + [lines[at]] + lines[at:], lines[:to] + [lines[at]] + lines[to:], other,
            lines[:at] + [dice.choice(["lamp a", "room zz 1", "door a b", "watch holds", "hold begin a", ""])] + lines[at:]]
    told = ["".join(line + "\n" for line in each) for each in told]
    place = dice.randrange(len(text))
    for sign in dice.sample("abz019 \nA-+_\r\t.", 4):
        told += [text[:place] + sign + text[place + 1:], text[:place] + sign + text[place:]]
    return told + [text[:place], text[:place] + text[place + 1:], text[place:]]


class HomesteadTextsTest(Checks):
    def check_text(self, text):
        line = fault_line(text)
        if line is None:
            told = read_homestead(text)
            self.assertEqual(write_homestead(told), text)
            self.assertEqual((told.count(), told.deeds(), told.undo(), told.again()), (0, [], None, None))
        else:
            self.check_error(BadText, {"line": line}, read_homestead, text)
        return line

    def test_example(self):
        told = example()
        told.do(("watch", ("short",)))
        told.do(("hold", ("holds",)))
        self.assertEqual(write_homestead(told), TEXT)
        self.assertEqual(read_homestead(TEXT), told)

    def test_written_and_read(self):
        met = set()
        for seed in range(150):
            told = random_homestead(seed)
            before = shown(told)
            text = write_homestead(told)
            read = read_homestead(text)
            self.assertEqual(read, told)
            self.assertEqual(shown(read)[:5] + (0, []), before[:5] + (0, []))
            self.assertEqual(shown(told), before)
            self.assertEqual(self.check_text(text), None)
            met |= {line.split(" ")[0] for line in text.split("\n")}
            met |= {line.split(" ")[1] for line in text.split("\n") if line[:5] in ("watch", "hold ")}
        self.assertLessEqual({"room", "door", "lamp", "watch", "hold", "begin", "doors", "ledgers", "lamps"}, met)

    def test_changed_texts(self):
        found = {}
        for seed in range(120):
            dice = random.Random(seed)
            text = write_homestead(random_homestead(seed)) if seed % 4 else TEXT.replace("watch", "lamp c\nwatch")
            for changed in changed_texts(dice, text) + changed_texts(dice, text):
                line = self.check_text(changed)
                found[line is None] = found.get(line is None, 0) + 1
        self.assertGreater(min(found.values()), 100)

    def test_lines(self):
        """Each kind of line at its edges."""
        ahead = "room a 0\nroom b 7\n"
        whole = ahead + "door a b\n"
        right = ["room a 0\n", "room a 999999999\n", whole, whole + "lamp b\n", whole + "hold ledgers 20\n",
                 whole + "lamp a\nwatch begin b\nhold doors a\n", "room z12345678901 5\n",
                 "room a 0\nwatch holds\n"]
        for text in right:
            self.assertIsNone(self.check_text(text))
        wrong = {"": 1, "\n": 1, "room a 0": 1, "room a 00\n": 1, "room a 01\n": 1, "room a -1\n": 1, "room a +1\n": 1,
                 "room a 1000000000\n": 1, "room a\n": 1, "room a  0\n": 1, " room a 0\n": 1, "room a 0 \n": 1,
                 "room A 0\n": 1, "room a12345678901b 0\n": 1, "room 1a 0\n": 1, "Room a 0\n": 1, "room a 1_0\n": 1,
                 "room b 0\nroom a 0\n": 2, "room a 0\nroom a 0\n": 2, "lamp a\n": 1, "door a b\n": 1, "watch holds\n": 1,
                 ahead: 3, ahead + "lamp a\n": 3, ahead + "watch holds\n": 3, ahead + "door b a\n": 3,
                 ahead + "door a a\n": 3, ahead + "door a c\n": 3, ahead + "door a\n": 3, ahead + "door a b c\n": 3,
                 whole + "door a b\n": 4, whole + "room c 0\n": 4, whole + "lamp c\n": 4, whole + "lamp\n": 4,
                 whole + "lamp a\nlamp a\n": 5, whole + "lamp a\nroom c 0\n": 5, whole + "lamp a\ndoor a b\n": 5,
                 whole + "watch holds\nlamp a\n": 5, whole + "watch holds\nhold holds\n": 5, whole + "watch begin c\n": 4,
                 whole + "watch ledgers 0\n": 4, whole + "watch ledgers 21\n": 4, whole + "watch ledgers 05\n": 4,
                 whole + "watch\n": 4, whole + "watch holds \n": 4, whole + "free holds\n": 4, whole + "lamp a": 4,
                 whole + "\n": 4, whole + "lamp a\n\n": 5, whole[:-1]: 3, whole + "watch holds a\n": 4}
        for text, line in wrong.items():
            self.assertEqual(self.check_text(text), line, text)

    def test_rings_and_order(self):
        rooms = "room a 0\nroom b 0\nroom c 0\nroom d 0\n"
        self.assertEqual(self.check_text(rooms + "door a b\ndoor a c\ndoor b c\ndoor c d\n"), 7)
        self.assertEqual(self.check_text(rooms + "door a c\ndoor a b\ndoor c d\n"), 6)
        # Doors are right by names, order and rings, though they can join all rooms no more.
        self.assertEqual(self.check_text(rooms + "door c d\n"), 6)
        self.assertEqual(self.check_text(rooms + "door c d\nlamp a\nzz\n"), 6)
        self.assertEqual(self.check_text(rooms + "door b c\ndoor b d\nwatch zz\n"), 7)

    def test_any_objects(self):
        for thing in any_objects() + [TEXT.encode(), [TEXT], example()]:
            line = 1 if isinstance(thing, str) else 0
            self.check_error(BadText, {"line": line}, read_homestead, thing)

    def test_read_ones_live(self):
        told = read_homestead(TEXT)
        self.assertEqual(told.do(("enter", "d", 3)), [])
        self.assertEqual((told.count(), told.at(0), told.undo()), (1, read_homestead(TEXT), ("enter", "d", 3)))
        self.assertEqual(told.mending_rooms(), ["b"])

    def test_great_ones(self):
        names = [f"r{k:011d}" for k in range(10)]
        for house in great_houses(10) + [star_house(names), random_house(names, 2)]:
            near = rows(house)
            text = "".join(f"room {room} 999999999\n" for room in house.rooms())
            text += "".join(f"door {one} {other}\n" for one, other in house.doors()) + f"lamp {house.rooms()[4]}\n"
            told = read_homestead(text)
            self.assertEqual((told.now(), write_homestead(told)), (house, text))
            self.assertEqual(told.book(), {room: 999999999 for room in near})
            self.assertEqual(told.answer(("holds",)), True)
            small = text.replace("999999999", "6")
            for question in ALONE + [("begin", house.rooms()[0]), ("ledgers", 20)]:
                small += "watch " + " ".join(str(part) for part in question) + "\n"
            self.assertEqual(write_homestead(read_homestead(small)), small)
            self.assertEqual(len(read_homestead(small).watched()), 8)
        # Eight thousand signs of rooms, refused at the end alone.
        many = "".join(f"room r{k:09d} 0\n" for k in range(430))
        self.assertEqual(self.check_text(many[:8000]), many[:8000].count("\n") + 1)
        row = "".join(f"room r{k:04d} 0\n" for k in range(200))
        row += "".join(f"door r{k:04d} r{k + 1:04d}\n" for k in range(199))
        self.assertIsNone(self.check_text(row))
        self.assertEqual(read_homestead(row).now(), House([f"r{k:04d}" for k in range(200)],
                                                          [(f"r{k:04d}", f"r{k + 1:04d}") for k in range(199)]))


if __name__ == "__main__":
    unittest.main()
