"""What [3] and the interface say of the classes."""

import importlib
import inspect
import unittest

from beadshares.benches import Bench
from beadshares.desks import Desk
from beadshares.strings import String
from beadshares.walkers import Walker
from tests.samples import SAMPLE

WISH = ((3, 3, 0, 0), (3, 3, 0, 0))

# For each class its module, its arguments, its properties, and its methods with theirs.
CLASSES = {
    "String": ("strings", "runs", "runs length totals kinds", {
        "counts": "first last", "turned": "", "with_run": "number run", "joined": "other"}),
    "Walker": ("walkers", "string wish cuts", "layout choices", {
        "__call__": "choice", "back": "many", "twin": ""}),
    "Bench": ("benches", "string", "string version news", {
        "fewest": "", "set_run": "number run", "put_run": "number run", "drop_run": "number", "turn": "",
        "undo": "", "tried": "function"}),
    "Desk": ("desks", "bench", "history", {"say": "line"}),
}
SIGNS = {"String": "__getitem__ __len__ __eq__ __str__", "Walker": "__len__ __eq__",
         "Bench": "__getitem__ __setitem__ __eq__ __str__", "Desk": ""}


def made():
    """Return a new object of each class."""
    bench = Bench(SAMPLE)
    return {"String": String(SAMPLE.runs), "Walker": Walker(SAMPLE, WISH, 2), "Bench": bench, "Desk": Desk(bench)}


class ClassesTest(unittest.TestCase):
    def test_each_stands_in_its_module_with_its_own_methods(self):
        for name, (module, arguments, properties, methods) in CLASSES.items():
            found = getattr(importlib.import_module(f"beadshares.{module}"), name)
            self.assertEqual(found.__module__, f"beadshares.{module}")
            self.assertEqual(list(inspect.signature(found).parameters), arguments.split())
            for word in properties.split():
                self.assertIsInstance(vars(found)[word], property)
            for method, words in methods.items():
                with self.subTest(name=name, method=method):
                    told = list(inspect.signature(vars(found)[method]).parameters)
                    self.assertEqual(told, ["self", *words.split()])
            for sign in SIGNS[name].split():
                self.assertIn(sign, vars(found))

    def test_properties_can_only_be_read(self):
        for name, thing in made().items():
            for word in CLASSES[name][2].split():
                with self.subTest(name=name, word=word):
                    value = getattr(thing, word)
                    with self.assertRaises(AttributeError):
                        setattr(thing, word, value)
                    with self.assertRaises(AttributeError):
                        delattr(thing, word)
                    self.assertEqual(getattr(thing, word), value)

    def test_properties_read_twice_are_equal_and_change_nothing(self):
        for name, thing in made().items():
            before = dict(vars(thing))
            for word in CLASSES[name][2].split():
                self.assertEqual(getattr(thing, word), getattr(thing, word))
            self.assertEqual(vars(thing), before)

    def test_objects_made_by_names_in_any_order(self):
        self.assertEqual(String(runs=SAMPLE.runs), SAMPLE)
        self.assertEqual(Walker(cuts=2, wish=WISH, string=SAMPLE), Walker(SAMPLE, WISH, 2))
        self.assertEqual(Bench(string=SAMPLE), Bench(SAMPLE))
        self.assertEqual(Desk(bench=Bench(SAMPLE)).history, ())

    def test_methods_called_by_position_and_by_names(self):
        calls = [
            ("String", "counts", {"first": 3, "last": 7}, (2, 2, 0, 0)),
            ("String", "with_run", {"number": 1, "run": (2, 9)}, String(((0, 4), (2, 9), (0, 2), (1, 4)))),
            ("String", "joined", {"other": String(((2, 1),))}, String(SAMPLE.runs + ((2, 1),))),
            ("String", "turned", {}, String(SAMPLE.runs[::-1])),
            ("Walker", "__call__", {"choice": (1,)}, None),
            ("Walker", "twin", {}, Walker(SAMPLE, WISH, 2)),
            ("Bench", "fewest", {}, 2),
            ("Bench", "set_run", {"number": 0, "run": (0, 6)}, 1),
            ("Bench", "put_run", {"number": 4, "run": (2, 2)}, 1),
            ("Bench", "drop_run", {"number": 0}, 1),
            ("Bench", "turn", {}, 1),
            ("Bench", "tried", {"function": str}, "bench at version 0"),
            ("Desk", "say", {"line": "drop 3"}, "ok 1"),
        ]
        for name, method, given, expected in calls:
            results = []
            for call in (lambda do: do(*given.values()), lambda do: do(**given),
                         lambda do: do(**dict(reversed(list(given.items()))))):
                thing = made()[name]
                results.append(call(getattr(thing, method)))
            with self.subTest(name=name, method=method):
                self.assertEqual(results, [expected] * 3)
                self.assertIs(type(results[0]), type(expected))
        for back in (lambda walker: walker.back(1), lambda walker: walker.back(many=1), lambda walker: walker.back()):
            walker = Walker(SAMPLE, WISH, 2)
            walker((0,))
            self.assertEqual(back(walker), ((), ()))

    def test_all_methods_are_called_above(self):
        called = {"counts", "with_run", "joined", "turned", "__call__", "twin", "fewest", "set_run", "put_run",
                  "drop_run", "turn", "tried", "say", "back", "undo"}
        self.assertEqual({method for told in CLASSES.values() for method in told[3]}, called)
        bench = Bench(SAMPLE)
        bench.turn()
        self.assertEqual(bench.undo(), 0)

    def test_what_has_no_result_told_returns_none(self):
        self.assertIsNone(Walker(SAMPLE, WISH, 2)((0,)))


if __name__ == "__main__":
    unittest.main()
