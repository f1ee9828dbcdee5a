"""[2] and [3]: each function and method of the interface takes its parameters by their names, in any order."""

import importlib
import unittest

from lamplight.alikebranches import least_branch
from lamplight.boxed import Boxed
from lamplight.branches import Branch
from lamplight.homesteads import Homestead
from lamplight.houses import House
from tests.brute import EXAMPLE, TWO_ROOMS, row_house
from tests.test_branches import ENDED, FORK
from tests.test_homesteads import example, shown
from tests.test_interface import CLASSES, FUNCTIONS

LEDGER = {"a": 1, "b": 3, "c": 1, "d": 1}
CARRYING = ["a", "b", "b", "c", "b", "d"]
BOX = {"a": (1, 2), "b": (1, 4), "c": (1, 1), "d": (1, 1)}
COUNTED = {("a", "b"): 1, ("b", "c"): 2, ("b", "d"): 1}
PASSES = {("a", "b"): 1, ("b", "a"): 0, ("b", "c"): 1, ("b", "d"): 1, ("c", "b"): 1, ("d", "b"): 0}
LEAVINGS = {"a": ["b"], "b": ["b", "c", "d"], "c": ["b"], "d": []}
# What is passed for a parameter where a function below has nothing of its own for it.
PASSED = {
    "house": EXAMPLE, "ledger": LEDGER, "carrying": CARRYING, "box": BOX, "room": "b", "other": "c", "one": "a", "third": "d",
    "first": "a", "last": "d", "some": ["b", "c"], "thing": CARRYING, "begun": ["a", "b"], "counted": COUNTED,
    "hours": 6, "number": 1, "prices": {"a": 1, "b": 2, "c": 3, "d": 4}, "budget": 1, "lots": [["a", "b"], ["c"]],
    "sums": [4, 1], "order": ["a", "b", "c", "d"], "branch": ENDED, "branches": [ENDED, ENDED],
    "boxed": Boxed(FORK, "r", {"x": (1, 3), "y": (1, 1), "z": (1, 1)}), "vector": (1, 2, 1, 0), "doors": 2, "least": 1,
    "most": 4, "rooms": list("abcd"), "records": [({"a": 1, "b": 1, "c": 1, "d": 1}, False)],
    "marks": {"a": "b", "b": "d", "c": "b", "d": None}, "known": {("a", "b"): 1}, "door": ("b", "c"), "place": "b",
    "hour": 2, "seen": {1: "b"}, "when": "soon", "judge": lambda ledger: True, "lighter": lambda rooms, left: "a",
    "reach": 1, "keeper": lambda ledger: True, "asker": lambda records: {room: 2 for room in "abcd"}, "many": 1,
    "chooser": lambda many: many - 1, "words": ["end", "free"], "ends": [("a", "c"), ("d", "b")], "name": "e",
    "names": {"a": "d", "b": "c", "c": "b", "d": "a"}, "homestead": example(), "text": "room a 1\nlamp a\n",
    "lists": LEAVINGS, "books": {"a": ["b"], "b": ["c", "d"], "c": ["b"], "d": []}, "rim_hours": 3,
}
OWN = {
    "stays_by": {"counted": PASSES}, "count_with": {"counted": PASSES}, "is_ledger": {"thing": LEDGER},
    "joined_by": {"one": EXAMPLE, "other": row_house(["e", "f"]), "far": "f"}, "is_paper": {"thing": ("lacks", "b")},
    "exchange_distance": {"one": CARRYING, "other": CARRYING}, "exchange_row": {"one": CARRYING, "other": CARRYING},
    "rows_behind": {"room": "b", "other": "a"}, "least_way": {"some": ["c", "a"]}, "behind": {"room": "a", "other": "b"},
    "is_possible": {"thing": LEDGER}, "are_heights": {"thing": PASSES}, "kth_possible": {"number": 2},
    "index_of": {"ledger": LEDGER}, "door_passes": {"one": "a", "other": "b"}, "is_full": {"thing": LEDGER},
    "is_price_paper": {"thing": PASSES}, "is_lamp_rows": {"thing": [CARRYING]}, "is_order": {"thing": ["a", "b"]},
    "lodge_rows": {"number": 2}, "lamp_rows": {"number": 2}, "carrying_by_hours": {"hours": {"a": 0, "b": 1}},
    "hours_fault": {"hours": {"a": 0, "b": 1, "c": 2}}, "carrying_with": {"hours": {"a": 0, "b": 1, "c": 3, "d": 5}},
    "hung": {"hours": 2}, "cut_off": {"room": "a", "other": "b"}, "surrounding": {"one": ENDED, "other": least_branch(0, 0)},
    "is_surrounding": {"one": ENDED, "other": least_branch(0, 0), "thing": ([], 1)}, "least_branch": {"ends": 1},
    "count_apart": {"one": ENDED, "other": least_branch(0, 0)}, "goes": {"hours": 1}, "going_count": {"hours": 3},
    "box_apart": {"one": Boxed(TWO_ROOMS, "a", {"b": (1, 2)}), "other": Boxed(FORK, "r", dict.fromkeys("xyz", (1, 1)))},
    "is_box_apart": {"one": Boxed(TWO_ROOMS, "a", {"b": (1, 2)}), "other": Boxed(TWO_ROOMS, "b", {"a": (1, 1)}),
                     "thing": ([], 1)},
    "added_counts": {"one": (1, 2, 3, 4), "other": (4, 3, 2, 1)}, "are_twins": {"one": EXAMPLE, "other": row_house(list("abcd"))},
    "parting_ledger": {"one": EXAMPLE, "other": row_house(list("abcd"))}, "door_chances": {"one": "b", "other": "a"},
    "ahead_chance": {"one": "b", "other": "a"}, "order_number": {"order": ["a", "b", "d", "c"]}, "judge_fault": {"hours": 2},
}


def calls():
    """Triples of a function, its parameters' names, and what is passed for them."""
    for file, signatures in FUNCTIONS.items():
        for signature in signatures:
            name, rest = signature[:-1].split("(")
            function = getattr(importlib.import_module(f"lamplight.{file}"), name)
            passed = {**PASSED, **OWN.get(name, {})}
            yield function, {each: passed[each] for each in rest.split(", ")}


class KeywordsTest(unittest.TestCase):
    def same(self, one, other):
        """That two things told are equal, functions being left out."""
        self.assertEqual(one, other)
        self.assertEqual(type(one), type(other))

    def test_functions(self):
        many = 0
        for function, passed in calls():
            with self.subTest(function=function.__name__):
                turned = {name: passed[name] for name in reversed(list(passed))}
                self.same(function(**turned), function(*passed.values()))
                many += 1
        self.assertEqual(many, sum(len(each) for each in FUNCTIONS.values()))

    def test_classes(self):
        self.assertEqual([name for _, name, _, _ in CLASSES], ["House", "Branch", "Boxed", "Homestead"])
        doors = [("r", "x"), ("x", "y"), ("x", "z")]
        self.assertEqual(House(doors=doors, rooms=list("rxyz")), FORK)
        self.assertEqual(Branch(hours={"x": 2, "y": 1, "z": 1}, rim="r", house=FORK), ENDED)
        box = {room: (1, 2) for room in "xyz"}
        self.assertEqual(Boxed(box=box, rim="r", house=FORK), Boxed(FORK, "r", box))
        self.assertEqual(Homestead(name="a"), Homestead("a"))

    def test_methods(self):
        told = example()
        self.assertEqual(told.would(deed=("enter", "b", 1)), [])
        self.assertEqual(told.do(deed=("enter", "b", 1)), [])
        self.assertEqual((told.is_question(thing=("holds",)), told.answer(question=("holds",))), (True, True))
        self.assertEqual(told.at(number=7), example())
        self.assertEqual(told.trial(work=lambda homestead: homestead.undo()), ("enter", "b", 1))
        self.assertEqual(shown(told)[5:6], (8,))


if __name__ == "__main__":
    unittest.main()
