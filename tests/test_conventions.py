"""What [3] and the interface say of all functions."""

import copy
import importlib
import inspect
import unittest

from beadshares.benches import Bench
from beadshares.desks import Desk
from beadshares.errors import BadRing, BadTakers, BadText, BadWeights, ShareError
from beadshares.strings import String
from beadshares.walkers import Walker
from tests.samples import NOTHING_RIGHT, SAMPLE, only_tuples, spoilt

INTERFACE = {
    "wishes": {"wish_error": "string value", "even": "string many", "shares": "string weights"},
    "dealings": {"dealing_error": "string many value", "dealt": "string many dealing",
                 "is_right": "string wish value"},
    "layouts": {"layout_of": "string dealing", "is_layout": "string many value",
                "layouts": "string many cuts", "amounts": "string layout kind some",
                "can": "string wish layout", "first_dealing": "string wish layout",
                "ranges": "string wish layout"},
    "cutting": {"possible": "string wish cuts", "fewest": "string wish", "deal": "string wish",
                "paper": "string wish cuts", "paper_holds": "string wish cuts value"},
    "nearness": {"nearest": "string wish cuts", "windows": "string"},
    "rings": {"ring_dealt": "string value", "ring_deal": "string wish"},
    "plans": {"pattern_error": "value", "string_of": "pattern lengths",
              "plan_error": "pattern many value", "fails": "pattern weights plan",
              "plan_dealing": "pattern plan lengths"},
    "texts": {"string_text": "string", "read_string": "value", "dealing_text": "dealing",
              "read_dealing": "string many value"},
}
FUNCTIONS = {name: getattr(importlib.import_module(f"beadshares.{module}"), name)
             for module, told in INTERFACE.items() for name in told}
NAMES = {name: words.split() for told in INTERFACE.values() for name, words in told.items()}

THREE = ((6, 0, 0, 0), (0, 2, 0, 0), (0, 4, 0, 0))
PAPER = ((((), (0,)), 0, (1,)), (((), (1,)), 1, (0,)))
# Calls as they are meant, each with what it returns.
WISH = ((3, 3, 0, 0), (3, 3, 0, 0))
LAYOUT = ((0, 3), (0, 1, 0))
DEALING = ((3, 9), (0, 1, 0))
PATTERN = ((0, 2, 8, 2), (1, 2, 8, 2))
PLAN = (((0, (2, 0, (1, 0))), (1, (2, 0, (0, 1)))), (0, 1, 0))
CALLS = [
    ("wish_error", (SAMPLE, WISH), None),
    ("wish_error", (SAMPLE, [WISH[0], [3, 3, 0, 0]]), "takers"),
    ("even", (SAMPLE, 2), WISH),
    ("shares", (SAMPLE, (1, 2)), ((2, 2, 0, 0), (4, 4, 0, 0))),
    ("dealing_error", (SAMPLE, 2, DEALING), None),
    ("dealing_error", (SAMPLE, 2, ([3, 9], [0, 1, 0])), "cuts"),
    ("dealt", (SAMPLE, 2, DEALING), WISH),
    ("is_right", (SAMPLE, WISH, DEALING), True),
    ("is_right", (SAMPLE, WISH, [[3, 9], [0, 1, 0]]), False),
    ("layout_of", (SAMPLE, DEALING), LAYOUT),
    ("is_layout", (SAMPLE, 2, LAYOUT), True),
    ("is_layout", (SAMPLE, 2, [[0, 3], [0, 1, 0]]), False),
    ("layouts", (SAMPLE, 2, 0), (((), (0,)), ((), (1,)))),
    ("amounts", (SAMPLE, LAYOUT, 0, (0,)), (1, 4)),
    ("can", (SAMPLE, WISH, LAYOUT), True),
    ("first_dealing", (SAMPLE, WISH, LAYOUT), DEALING),
    ("first_dealing", (SAMPLE, THREE, ((0, 1, 2), (0, 1, 0, 2))), ((4, 6, 8), (0, 1, 0, 2))),
    ("ranges", (SAMPLE, WISH, LAYOUT), ((3, 3), (9, 9))),
    ("possible", (SAMPLE, THREE, 3), (((0, 1, 2), (0, 1, 0, 2)),)),
    ("fewest", (SAMPLE, WISH), 2),
    ("deal", (SAMPLE, WISH), DEALING),
    ("paper", (SAMPLE, WISH, 2), None),
    ("paper_holds", (SAMPLE, WISH, 0, PAPER), True),
    ("paper_holds", (SAMPLE, WISH, 0, list(PAPER)), False),
    ("nearest", (SAMPLE, THREE[:1] + ((0, 6, 0, 0),), 0), (6, ((), (0,)))),
    ("nearest", (SAMPLE, WISH, 2), (0, DEALING)),
    ("windows", (SAMPLE,), ((3, 3),)),
    ("ring_dealt", (SAMPLE, ((3, 9), 1)), WISH),
    ("ring_deal", (SAMPLE, WISH), ((3, 9), 1)),
    ("ring_deal", (SAMPLE, ((6, 6, 0, 0), (0, 0, 0, 0))), ((), 0)),
    ("pattern_error", (PATTERN,), None),
    ("pattern_error", ([*PATTERN],), (None, "pattern")),
    ("string_of", (PATTERN, (4, 6)), String(((0, 4), (1, 6)))),
    ("plan_error", (PATTERN, 2, PLAN), None),
    ("plan_error", (PATTERN, 2, (list(PLAN[0]), PLAN[1])), "cuts"),
    ("fails", (PATTERN, (1, 1), PLAN), None),
    ("fails", (((0, 3, 3, 1), (1, 2, 2, 1)), (1, 1), PLAN), (3, 2)),
    ("plan_dealing", (PATTERN, PLAN, (4, 6)), ((2, 7), (0, 1, 0))),
    ("string_text", (SAMPLE,), "4a 2b 2a 4b"),
    ("read_string", (" 4a  2b 2a 4b",), SAMPLE),
    ("dealing_text", (DEALING,), "3 9 to 0 1 0"),
    ("read_dealing", (SAMPLE, 2, "3 9 to 0 1 0"), DEALING),
]


ANY_VALUES = [*NOTHING_RIGHT, *spoilt(WISH), *spoilt(DEALING), *spoilt(LAYOUT), *spoilt(PAPER),
              *spoilt(PATTERN), *spoilt(PLAN), Walker(SAMPLE, WISH, 2), Bench(SAMPLE), Desk(Bench(SAMPLE))]


class InterfaceTest(unittest.TestCase):
    def test_each_function_stands_in_its_file_with_its_arguments(self):
        for module, told in INTERFACE.items():
            for name, words in told.items():
                with self.subTest(name=name):
                    function = FUNCTIONS[name]
                    self.assertTrue(inspect.isfunction(function))
                    self.assertEqual(function.__module__, f"beadshares.{module}")
                    self.assertEqual(list(inspect.signature(function).parameters), words.split())

    def test_each_is_called(self):
        self.assertEqual({name for name, _, _ in CALLS}, set(FUNCTIONS))


class CallsTest(unittest.TestCase):
    def assert_same(self, found, expected):
        self.assertEqual(found, expected)
        self.assertIs(type(found), type(expected))
        self.assertTrue(isinstance(found, String) or only_tuples(found))

    def test_by_position_and_by_name(self):
        for name, arguments, expected in CALLS:
            with self.subTest(name=name, arguments=arguments):
                self.assert_same(FUNCTIONS[name](*arguments), expected)
                named = list(zip(NAMES[name], arguments))
                self.assert_same(FUNCTIONS[name](**dict(named)), expected)
                self.assert_same(FUNCTIONS[name](**dict(reversed(named))), expected)

    def test_equal_calls_give_equal_results_and_change_nothing(self):
        for name, arguments, expected in CALLS:
            with self.subTest(name=name, arguments=arguments):
                held = copy.deepcopy(arguments)
                for _ in range(2):
                    self.assert_same(FUNCTIONS[name](*held), expected)
                    self.assertEqual(held, arguments)
                    if isinstance(held[0], String):
                        self.assertEqual(held[0].runs, SAMPLE.runs)

    def test_any_value_is_answered_and_not_changed(self):
        any_values = {"wish_error": (SAMPLE,), "dealing_error": (SAMPLE, 2), "is_right": (SAMPLE, WISH),
                      "is_layout": (SAMPLE, 3), "paper_holds": (SAMPLE, WISH, 1), "pattern_error": (),
                      "plan_error": (PATTERN, 2)}
        for name, ahead in any_values.items():
            for value in ANY_VALUES:
                before = repr(value)
                with self.subTest(name=name, value=value):
                    self.assertTrue(only_tuples(FUNCTIONS[name](*ahead, value)))
                    self.assertEqual(repr(value), before)

    def test_any_value_is_answered_or_refused_with_the_errors_that_are_told(self):
        any_values = {"even": (SAMPLE,), "shares": (SAMPLE,), "ring_dealt": (SAMPLE,), "read_string": (),
                      "read_dealing": (SAMPLE, 2)}
        told = {"even": BadTakers, "shares": BadWeights, "ring_dealt": BadRing, "read_string": BadText,
                "read_dealing": BadText}
        for name, ahead in any_values.items():
            for value in ANY_VALUES:
                before = repr(value)
                with self.subTest(name=name, value=value), self.assertRaises(told[name]):
                    FUNCTIONS[name](*ahead, value)
                self.assertEqual(repr(value), before)

    def test_a_call_that_raises_changes_nothing(self):
        string = String(SAMPLE.runs)
        weights = [1, {"a": [2]}]
        for name, value in (("even", weights), ("shares", weights), ("shares", (1, 4)), ("ring_dealt", weights)):
            with self.assertRaises(ShareError):
                FUNCTIONS[name](string, value)
        self.assertEqual((string.runs, weights), (SAMPLE.runs, [1, {"a": [2]}]))

    def test_what_is_returned_can_be_passed_on(self):
        for wish in (FUNCTIONS["even"](SAMPLE, 2), FUNCTIONS["shares"](SAMPLE, (2, 1))):
            for cuts in range(5):
                for layout in FUNCTIONS["possible"](SAMPLE, wish, cuts):
                    dealing = FUNCTIONS["first_dealing"](SAMPLE, wish, layout)
                    self.assertIs(FUNCTIONS["is_right"](SAMPLE, wish, dealing), True)
                    self.assertEqual(FUNCTIONS["layout_of"](SAMPLE, dealing), layout)


if __name__ == "__main__":
    unittest.main()
