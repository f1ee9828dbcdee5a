"""[126] to [131], and [133] on them: homesteads, their deeds and questions."""

import random
import unittest

from lamplight.added import fewest_added
from lamplight.counting import count_carryings
from lamplight.errors import (BadDeed, BadName, BadQuestion, InUse, IsWatched, LampError, LampStands, NoCount, NoDoor,
                              NoLamp, NoRoom, NotDark, NotLeaf, NotWatched, TakenRoom, TooMany, WouldChange)
from lamplight.goingon import next_rooms
from lamplight.homesteads import Homestead
from lamplight.homesteadtexts import read_homestead, write_homestead
from lamplight.houses import House
from lamplight.leastledgers import ledgers_with
from lamplight.onelaw import holds, paper_of, short_rooms
from lamplight.severallamps import lamps_wanted
from tests.brute import EXAMPLE, any_objects, great_houses, great_ledger, random_house, rows, star_house
from tests.checks import Checks, no_numbers

ALONE = [("holds",), ("short",), ("paper",), ("added",), ("lamps",), ("carryings",)]


def example():
    told = Homestead("b")
    for name in "acd":
        told.do(("build", name, "b"))
    for name in "abcd":
        told.do(("enter", name, 1))
    return told


def shown(homestead):
    """All that a homestead tells of itself."""
    return (homestead.now().rooms(), homestead.now().doors(), homestead.book(), homestead.lamp(), homestead.watched(),
            homestead.count(), homestead.deeds())


class Plainly:
    """A plain reckoning of a homestead: house, book, lamp, watched questions."""

    def __init__(self, name):
        self.near = {name: []}
        self.book = {name: 0}
        self.lamp = None
        self.watched = []

    def copy(self):
        told = Plainly("a")
        told.near = {room: list(self.near[room]) for room in self.near}
        told.book = dict(self.book)
        told.lamp = self.lamp
        told.watched = list(self.watched)
        return told

    def house(self):
        return House(list(self.near), [(one, other) for one in self.near for other in self.near[one] if one < other])

    def is_question(self, thing):
        if not isinstance(thing, (list, tuple)) or not thing:
            return False
        if tuple(thing) in ALONE:
            return True
        if len(thing) != 2:
            return False
        if thing[0] == "ledgers":
            return type(thing[1]) is int and 1 <= thing[1] <= 20
        return thing[0] in ("begin", "doors") and isinstance(thing[1], str) and thing[1] in self.near

    def answer(self, question):
        house = self.house()
        if question[0] == "doors":
            return len(self.near[question[1]])
        if question[0] == "ledgers":
            return ledgers_with(house, question[1])
        if not any(self.book.values()):
            return None
        paper = paper_of(house, self.book)
        return {"holds": lambda: holds(house, self.book), "short": lambda: len(short_rooms(house, self.book)),
                "paper": lambda: paper and paper[0], "begin": lambda: question[1] in next_rooms(house, self.book, []),
                "added": lambda: fewest_added(house, self.book), "lamps": lambda: lamps_wanted(house, self.book),
                "carryings": lambda: count_carryings(house, self.book)}[question[0]]()

    def fault(self, deed):
        """The error that a deed is due here, but the last ones, and what it keeps; None if there is none."""
        word, *parts = deed
        name = parts[0] if parts else None
        if word == "build":
            if name in self.near:
                return TakenRoom, {"name": name}
            return (NoRoom, {"thing": parts[1]}) if parts[1] not in self.near else None
        if word in ("wait", "go", "end") and self.lamp is None:
            return NoLamp, {}
        if word == "set" and self.lamp is not None:
            return LampStands, {"name": self.lamp}
        if word in ("pull", "enter", "strike", "set", "go") and name not in self.near:
            return NoRoom, {"thing": name}
        if word == "pull":
            if len(self.near[name]) != 1:
                return NotLeaf, {"name": name}
            if self.book[name]:
                return NotDark, {"name": name}
            return (LampStands, {"name": name}) if self.lamp == name else None
        if word == "strike" and parts[1] > self.book[name]:
            return TooMany, {"hours": self.book[name]}
        if word == "go" and name not in self.near[self.lamp]:
            return NoDoor, {"one": self.lamp, "other": name}
        if word in ("watch", "hold", "free"):
            return self.fault_of_watching(word, name)
        return None

    def fault_of_watching(self, word, thing):
        if not self.is_question(thing):
            return BadQuestion, {"thing": thing}
        held = dict(self.watched)
        question = tuple(thing)
        if word == "free":
            return None if question in held else (NotWatched, {"thing": thing})
        if question in held and (word == "watch" or held[question]):
            return IsWatched, {"thing": thing}
        return None

    def done(self, deed):
        told = self.copy()
        word, *parts = deed
        name = parts[0] if parts else None
        if word == "build":
            told.near[name] = [parts[1]]
            told.near[parts[1]].append(name)
            told.book[name] = 0
        elif word == "pull":
            told.near[told.near.pop(name)[0]].remove(name)
            del told.book[name]
        elif word in ("enter", "strike"):
            told.book[name] += parts[1] if word == "enter" else -parts[1]
        elif word in ("set", "go", "wait"):
            told.lamp = self.lamp if word == "wait" else name
            told.book[told.lamp] += 1
        elif word == "end":
            told.lamp = None
        elif word == "free":
            told.watched = [pair for pair in told.watched if pair[0] != tuple(name)]
        else:
            held = dict(told.watched)
            held[tuple(name)] = word == "hold"
            told.watched = list(held.items())
        return told

    def last_fault(self, behind):
        for question, _ in self.watched:
            if not behind.is_question(question):
                return InUse, {"question": question}
        return None

    def changes(self, behind):
        told = [(question, self.answer(question), behind.answer(question)) for question, _ in self.watched]
        return [triple for triple in told if triple[1] != triple[2]]


def random_deed(dice, plainly):
    names = sorted(plainly.near) + ["zz", "q1"]
    word = dice.choice(["build", "build", "pull", "enter", "enter", "strike", "set", "wait", "go", "go", "end", "watch",
                        "watch", "hold", "free"])
    name = dice.choice(names)
    if word == "build":
        return (word, dice.choice(names + list("abcdefgh")), dice.choice(names))
    if word in ("pull", "set", "go"):
        return (word, name)
    if word in ("enter", "strike"):
        return (word, name, dice.choice((1, 1, 1, 2, 3)))
    if word in ("wait", "end"):
        return (word,)
    things = ALONE + [("begin", name), ("doors", name), ("ledgers", dice.randrange(0, 23)), ("zz",), 5]
    return (word, dice.choice(things + [question for question, _ in plainly.watched]))


class HomesteadsTest(Checks):
    def check_same(self, homestead, plainly):
        house = plainly.house()
        self.assertEqual(homestead.now(), house)
        book = {room: plainly.book[room] for room in house.rooms()}
        self.assertEqual((homestead.book(), list(homestead.book())), (book, house.rooms()))
        self.assertEqual(homestead.lamp(), plainly.lamp)
        watched = [(question, plainly.answer(question), held) for question, held in plainly.watched]
        self.assertEqual(homestead.watched(), watched)

    def check_refused(self, homestead, call, due, *arguments):
        before = shown(homestead)
        with self.assertRaises(LampError) as caught:
            call(*arguments)
        error, kept = due
        self.assertIs(type(caught.exception), error)
        self.assertEqual(vars(caught.exception), kept)
        self.assertEqual(shown(homestead), before)

    def test_example(self):
        told = example()
        self.assertEqual((told.answer(("holds",)), told.answer(("paper",)), told.mending_rooms()), (False, "lacks", ["b"]))
        self.assertEqual(told.do(("watch", ("short",))), [])
        told.do(("hold", ("holds",)))
        self.check_refused(told, told.do, (WouldChange, {"question": ("holds",)}), ("enter", "b", 1))
        self.assertEqual(told.would(("enter", "b", 1)), [(("short",), 0, 1), (("holds",), False, True)])
        self.assertEqual(told.count(), 9)

    def test_the_first_one(self):
        told = Homestead("a1")
        self.assertEqual(shown(told), (["a1"], [], {"a1": 0}, None, [], 0, []))
        self.assertEqual((told.undo(), told.again(), told.mending_rooms()), (None, None, ["a1"]))
        for thing in any_objects() + ["1a", "A", "abcdefghijklm"]:
            if thing != "zz" and thing != "dark":
                self.check_error(BadName, {"thing": thing}, Homestead, thing)

    def test_rows_of_deeds(self):
        """Rows of random deeds, right ones and refused ones, against a plain reckoning, taken back and done again."""
        met = {}
        for seed in range(40):
            dice = random.Random(seed)
            homestead = Homestead("b")
            behind = [Plainly("b")]
            undone = []
            deeds = []
            for _ in range(60):
                if dice.random() < 0.15:
                    self.check_back(dice, homestead, behind, undone, deeds)
                    continue
                deed = random_deed(dice, behind[-1])
                due = behind[-1].fault(deed)
                if due is None:
                    further = behind[-1].done(deed)
                    due = behind[-1].last_fault(further)
                if due is not None:
                    met[due[0]] = met.get(due[0], 0) + 1
                    self.check_refused(homestead, homestead.do, due, deed)
                    self.check_refused(homestead, homestead.would, due, list(deed))
                    continue
                changed = behind[-1].changes(further)
                before = shown(homestead)
                self.assertEqual(homestead.would(deed), changed)
                self.assertEqual(shown(homestead), before)
                held = [question for question, is_held in behind[-1].watched if is_held]
                wrong = [question for question, _, _ in changed if question in held]
                if wrong:
                    met[WouldChange] = met.get(WouldChange, 0) + 1
                    self.check_refused(homestead, homestead.do, (WouldChange, {"question": wrong[0]}), deed)
                    continue
                self.assertEqual(homestead.do(list(deed) if dice.random() < 0.5 else deed), changed)
                behind.append(further)
                deeds.append(deed)
                undone.clear()
                self.check_same(homestead, further)
            self.check_at(homestead, behind, deeds)
        self.assertEqual(sorted(error.__name__ for error in met), sorted([
            "TakenRoom", "NoRoom", "NoLamp", "LampStands", "NotLeaf", "NotDark", "TooMany", "NoDoor", "BadQuestion",
            "IsWatched", "NotWatched", "InUse", "WouldChange"]))

    def check_back(self, dice, homestead, behind, undone, deeds):
        if dice.random() < 0.6:
            self.assertEqual(homestead.undo(), deeds[-1] if deeds else None)
            if deeds:
                undone.append((deeds.pop(), behind.pop()))
        else:
            self.assertEqual(homestead.again(), undone[-1][0] if undone else None)
            if undone:
                deed, further = undone.pop()
                deeds.append(deed)
                behind.append(further)
        self.check_same(homestead, behind[-1])
        self.assertEqual((homestead.count(), homestead.deeds()), (len(deeds), deeds))

    def check_at(self, homestead, behind, deeds):
        self.assertEqual((homestead.count(), homestead.deeds()), (len(deeds), deeds))
        for number, plainly in enumerate(behind):
            other = homestead.at(number)
            self.check_same(other, plainly)
            self.assertEqual((other.count(), other.deeds(), other.again()), (number, deeds[:number], None))
        before = shown(homestead)
        other = homestead.at(len(deeds))
        self.assertEqual(other, homestead)
        other.undo()
        for question, _, _ in other.watched():
            other.do(("free", question))
        other.do(("build", "other", other.now().rooms()[0]))
        self.assertEqual(shown(homestead), before)

    def test_deeds_that_are_none(self):
        told = example()
        words = ["build", "pull", "enter", "strike", "set", "wait", "go", "end", "watch", "hold", "free"]
        things = any_objects() + [(word,) for word in words if word not in ("wait", "end")]
        things += [(word, "a", "b", "c") for word in words] + [("wait", "a"), ("end", None), ("pull", "a", "b")]
        for thing in any_objects():
            things += [("enter", "a", thing)] if type(thing) is not int or thing < 1 else []
            things += [("strike", "a", thing)] if type(thing) is not int or thing < 1 else []
            if not isinstance(thing, str) or thing not in ("zz", "dark"):
                things += [("build", thing, "a"), ("build", "e", thing), ("pull", thing), ("set", thing), ("go", thing),
                           ("enter", thing, 1), ("strike", thing, 1), ["set", thing]]
            things += [(thing, "a"), [thing]]
        for thing in things + ["wait", {"wait": 1}, ("Wait",), (["wait"],), (("wait",),), ("watch",)]:
            self.check_error(BadDeed, {"thing": thing}, told.do, thing)
            self.check_error(BadDeed, {"thing": thing}, told.would, thing)
        self.assertEqual(shown(told), shown(example()))

    def test_errors_of_works(self):
        told = example()
        for call in (told.do, told.would):
            self.check_error(TakenRoom, {"name": "a"}, call, ("build", "a", "zz"))
            self.check_error(NoRoom, {"thing": "zz"}, call, ("build", "e", "zz"))
            for deed in (("pull", "zz"), ("enter", "zz", 1), ("strike", "zz", 1), ("set", "zz")):
                self.check_error(NoRoom, {"thing": "zz"}, call, deed)
            self.check_error(NotLeaf, {"name": "b"}, call, ("pull", "b"))
            self.check_error(NotDark, {"name": "a"}, call, ("pull", "a"))
            self.check_error(TooMany, {"hours": 1}, call, ("strike", "a", 2))
            self.check_error(NotLeaf, {"name": "a"}, Homestead("a").do, ("pull", "a"))
        told.do(("strike", "a", 1))
        told.do(("set", "a"))
        told.do(("strike", "a", 1))
        for call in (told.do, told.would):
            self.check_error(LampStands, {"name": "a"}, call, ("pull", "a"))
            self.check_error(LampStands, {"name": "a"}, call, ("set", "zz"))
            self.check_error(NoRoom, {"thing": "zz"}, call, ("go", "zz"))
            for far in ("a", "c"):
                self.check_error(NoDoor, {"one": "a", "other": far}, call, ("go", far))
        self.assertEqual((told.do(("go", "b")), told.lamp(), told.book()["b"]), ([], "b", 2))
        self.assertEqual((told.do(("wait",)), told.do(("end",)), told.lamp(), told.book()["b"]), ([], [], None, 3))
        for deed in (("wait",), ("go", "zz"), ("end",)):
            self.check_error(NoLamp, {}, told.do, deed)
        told.do(("pull", "a"))
        self.assertEqual(told.now().rooms(), ["b", "c", "d"])

    def test_errors_of_watching(self):
        told = example()
        things = any_objects() + [("holds", 1), ("begin",), ("begin", "zz"), ("doors", "zz"), ("doors", None), ("ledgers", 0),
                                  ("ledgers", 21), ("ledgers", True), ("ledgers", "5"), ("ledgers",), "holds", ("zz",),
                                  ("begin", "a", "b"), (["holds"],), ("Holds",), ((("holds",),))]
        for thing in things:
            if thing == ("holds",):
                continue
            for word in ("watch", "hold", "free"):
                self.check_error(BadQuestion, {"thing": thing}, told.do, (word, thing))
                self.check_error(BadQuestion, {"thing": thing}, told.would, [word, thing])
            self.check_error(BadQuestion, {"thing": thing}, told.answer, thing)
            self.assertIs(told.is_question(thing), False)
        question = ["doors", "a"]
        self.check_error(NotWatched, {"thing": question}, told.do, ("free", question))
        told.do(("watch", question))
        self.check_error(IsWatched, {"thing": question}, told.do, ("watch", question))
        told.do(("watch", ("short",)))
        told.do(("hold", question))
        for word in ("watch", "hold"):
            self.check_error(IsWatched, {"thing": question}, told.do, (word, question))
        self.assertEqual(told.watched(), [(("doors", "a"), 1, True), (("short",), 0, False)])
        self.check_refused(told, told.do, (WouldChange, {"question": ("doors", "a")}), ("build", "e", "a"))
        told.do(("strike", "a", 1))
        for call in (told.do, told.would):
            self.check_refused(told, call, (InUse, {"question": ("doors", "a")}), ("pull", "a"))
        told.do(("free", ("doors", "a")))
        self.assertEqual(told.do(("pull", "a")), [])
        self.assertEqual(told.deeds()[-4:], [("hold", ("doors", "a")), ("strike", "a", 1), ("free", ("doors", "a")),
                                             ("pull", "a")])

    def test_first_of_several_last_errors(self):
        """InUse is ahead of WouldChange, and each tells the first question in the order of watching."""
        told = example()
        told.do(("strike", "d", 1))
        for deed in (("hold", ("doors", "b")), ("watch", ("begin", "d")), ("hold", ("doors", "d"))):
            told.do(deed)
        self.check_refused(told, told.do, (InUse, {"question": ("begin", "d")}), ("pull", "d"))
        self.check_refused(told, told.do, (WouldChange, {"question": ("doors", "b")}), ("build", "e", "b"))
        self.check_refused(told, told.do, (WouldChange, {"question": ("doors", "d")}), ("build", "e", "d"))

    def test_questions(self):
        told = example()
        questions = ALONE + [("begin", "a"), ("begin", "b"), ("doors", "b"), ("ledgers", 5), ("ledgers", 20)]
        for question in questions:
            self.assertIs(told.is_question(question), True)
            self.assertIs(told.is_question(list(question)), True)
        self.assertEqual([told.answer(question) for question in questions],
                         [False, 0, "lacks", 1, 2, 0, False, False, 3, 1, ledgers_with(EXAMPLE, 20)])
        told.do(("enter", "b", 1))
        self.assertEqual([told.answer(list(question)) for question in questions],
                         [True, 1, None, 0, 1, 6, True, False, 3, 1, ledgers_with(EXAMPLE, 20)])
        none = Homestead("a")
        none.do(("build", "b", "a"))
        self.assertEqual([none.answer(question) for question in ALONE + [("begin", "a")]], [None] * 7)
        self.assertEqual((none.answer(("doors", "b")), none.answer(("ledgers", 3))), (1, 2))
        self.assertEqual(told.answer(("paper",)), None)

    def test_mending_rooms(self):
        for seed in range(60):
            dice = random.Random(seed)
            house = random_house(list("gfedcba"), seed)
            homestead = Homestead("g")
            for name in "fedcba":
                homestead.do(("build", name, [o for o in rows(house)[name] if homestead.now().has(o)][0]))
            for name, near in rows(house).items():
                hours = len(near) - dice.choice((0, 1, 1, 1, 2, 3))
                if hours > 0:
                    homestead.do(("enter", name, hours))
            book = homestead.book()
            expected = [room for room in book if holds(house, {**book, room: book[room] + 1})]
            told = homestead.mending_rooms()
            if any(book.values()):
                self.assertEqual(told, [] if holds(house, book) else expected)
                self.assertLessEqual(len(told), 3)
            else:
                self.assertEqual(told, house.rooms())

    def test_facts(self):
        """By the lamp alone, set once, the book stays one of a carrying that begins where it was set."""
        for seed in range(20):
            dice = random.Random(seed)
            homestead = Homestead("m")
            for at in range(7):
                homestead.do(("build", f"r{at}", dice.choice(homestead.now().rooms())))
            start = dice.choice(homestead.now().rooms())
            homestead.do(("set", start))
            for _ in range(12):
                near = rows(homestead.now())[homestead.lamp()]
                homestead.do(("go", dice.choice(near)) if dice.random() < 0.8 else ("wait",))
                self.assertEqual((homestead.answer(("holds",)), homestead.answer(("begin", start))), (True, True))
                self.assertEqual(homestead.mending_rooms(), [])

    def test_back_and_on(self):
        told = example()
        self.assertEqual([told.undo(), told.undo()], [("enter", "d", 1), ("enter", "c", 1)])
        self.assertEqual((told.again(), told.count(), told.book()["c"]), (("enter", "c", 1), 6, 1))
        # What is refused does not end what can be done again, what is done does.
        self.check_error(TakenRoom, {"name": "a"}, told.do, ("build", "a", "b"))
        told.would(("enter", "a", 5))
        copied = told.copy()
        self.assertEqual((told.again(), told.again()), (("enter", "d", 1), None))
        self.assertEqual(copied.count(), 6)
        self.assertEqual((copied.do(("wait",)) if copied.lamp() else None, copied.again()), (None, ("enter", "d", 1)))
        self.assertEqual(copied, told)
        told.undo()
        told.do(("enter", "a", 1))
        self.assertEqual((told.again(), told.count()), (None, 7))
        self.assertNotEqual(copied, told)
        for _ in range(7):
            told.undo()
        self.assertEqual(shown(told)[:5], shown(Homestead("b"))[:5])
        self.assertIsNone(told.undo())

    def test_undo_of_held_ones(self):
        """Going back and on is no deed: it is not refused by what is held."""
        told = example()
        told.do(("enter", "b", 1))
        told.undo()
        told.do(("enter", "b", 1))
        told.do(("hold", ("holds",)))
        self.assertEqual((told.undo(), told.undo(), told.again(), told.again()),
                         (("hold", ("holds",)), ("enter", "b", 1), ("enter", "b", 1), ("hold", ("holds",))))

    def test_at(self):
        told = example()
        told.undo()
        for thing in no_numbers(0) + [7, 8, 10 ** 9]:
            self.check_error(NoCount, {"thing": thing}, told.at, thing)
        self.assertEqual(told.at(0), Homestead("b"))
        other = told.at(6)
        self.assertEqual((other, other.again(), told.again()), (told.at(6), None, ("enter", "d", 1)))

    def test_copies(self):
        told = example()
        told.do(("hold", ("holds",)))
        told.undo()
        copied = told.copy()
        self.assertEqual((copied, shown(copied)), (told, shown(told)))
        self.assertEqual(copied.again(), ("hold", ("holds",)))
        self.assertEqual(told.watched(), [])
        copied.undo()
        copied.do(("build", "e", "a"))
        self.assertEqual((told.now(), told.again()), (EXAMPLE, ("hold", ("holds",))))

    def test_equal(self):
        row = Homestead("a")
        for name, at in ("ba", "cb", "dc"):
            row.do(("build", name, at))
        for name in "abcd":
            row.do(("enter", name, 1))
        unlike = [Homestead("b"), example().at(6), example(), row]
        self.assertTrue(all(unlike[at] != other for at in range(4) for other in unlike[:at]))
        for deeds in ([("build", "e", "a")], [("enter", "a", 1)], [("watch", ("short",))], [("hold", ("short",))],
                      [("strike", "a", 1), ("set", "a")], [("watch", ("short",)), ("watch", ("holds",))],
                      [("watch", ("holds",)), ("watch", ("short",))]):
            other = example()
            for deed in deeds:
                other.do(deed)
            self.assertTrue(all(other != each for each in unlike))
            unlike.append(other)
        for thing in any_objects() + [EXAMPLE, shown(example())]:
            self.assertFalse(example() == thing)
            self.assertTrue(example() != thing)
        other = Homestead("a")
        for deed in (("build", "b", "a"), ("build", "c", "b"), ("build", "d", "b"), ("set", "a"), ("go", "b"), ("go", "c"),
                     ("end",), ("enter", "d", 1)):
            other.do(deed)
        self.assertEqual(other, example())

    def test_told_and_passed_things(self):
        told = example()
        deed = ["watch", ["doors", "a"]]
        told.do(deed)
        deed[1][1] = "b"
        deed.append("c")
        self.assertEqual((told.watched(), told.deeds()[-1]), ([(("doors", "a"), 1, False)], ("watch", ("doors", "a"))))
        before = shown(told)
        for thing in (told.book(), told.watched(), told.deeds(), told.mending_rooms(), told.would(("build", "e", "a"))):
            thing.clear()
        self.assertEqual(shown(told), before)
        changed = told.do(["build", "e", "a"])
        self.assertEqual((changed, type(changed[0])), ([(("doors", "a"), 1, 2)], tuple))

    def test_trials(self):
        told = example()
        told.do(("enter", "b", 1))
        told.undo()
        before = shown(told)

        def work(homestead):
            self.assertIs(homestead, told)
            for deed in (("build", "e", "a"), ("set", "e"), ("hold", ("short",))):
                homestead.do(deed)
            homestead.undo()
            return [homestead.count(), homestead.lamp()]

        self.assertEqual(told.trial(work), [10 - 1, "e"])
        self.assertEqual(shown(told), before)
        self.assertEqual(told.again(), ("enter", "b", 1))
        error = ValueError("out")

        def fails(homestead):
            homestead.undo()
            homestead.do(("build", "e", "a"))
            raise error

        before = shown(told)
        with self.assertRaises(ValueError) as caught:
            told.trial(fails)
        self.assertIs(caught.exception, error)
        self.assertEqual(shown(told), before)
        with self.assertRaises(TakenRoom):
            told.trial(lambda homestead: homestead.do(("enter", "a", 1)) or homestead.do(("build", "a", "b")))
        self.assertEqual(shown(told), before)
        self.assertIsNone(told.trial(lambda homestead: None))

    def test_trials_within_one_another(self):
        told = example()

        def deeper(depth):
            def work(homestead):
                ahead = shown(homestead)
                homestead.do(("enter", "a", depth))
                if depth < 6:
                    within = shown(homestead)
                    self.assertEqual(homestead.trial(deeper(depth + 1)), 6)
                    self.assertEqual(shown(homestead), within)
                    self.assertNotEqual(within, ahead)
                    return 6
                return depth
            return work

        before = shown(told)
        self.assertEqual(told.trial(deeper(1)), 6)
        self.assertEqual(shown(told), before)

    def test_kept_errors(self):
        """Errors that keep a room keep the very one that was passed."""
        told = example()
        for deed, error, name in ((("build", "zzz", "far"), NoRoom, "thing"), (("build", "a", "b"), TakenRoom, "name"),
                                  (("pull", "b"), NotLeaf, "name")):
            with self.assertRaises(error) as caught:
                told.do(deed)
            self.assertIn(getattr(caught.exception, name), deed)

    def test_great_ones(self):
        names = [f"r{k}" for k in range(10)]
        for house in great_houses(10) + [star_house(names)]:
            near = rows(house)
            homestead = Homestead(house.rooms()[0])
            waiting = homestead.now().rooms()
            for one in waiting:
                for other in near[one]:
                    if not homestead.now().has(other):
                        homestead.do(("build", other, one))
                        waiting.append(other)
            self.assertEqual(homestead.now(), house)
            for room, hours in great_ledger(house, 50).items():
                homestead.do(("enter", room, hours))
            for question in (("carryings",), ("lamps",), ("added",), ("begin", house.rooms()[3]), ("ledgers", 20)):
                homestead.do(("watch", question))
            homestead.do(("set", house.rooms()[1]))
            for _ in range(9):
                homestead.do(("go", near[homestead.lamp()][-1]))
            self.assertEqual(sum(homestead.book().values()), 60)
            homestead.trial(lambda each: [each.undo() for _ in range(20)])
            for number in range(0, homestead.count() + 1, 7):
                self.assertEqual(homestead.at(number).count(), number)
            self.assertEqual(read_homestead(write_homestead(homestead)), homestead)
            self.assertEqual(homestead.answer(("carryings",)), count_carryings(house, homestead.book()))


if __name__ == "__main__":
    unittest.main()
