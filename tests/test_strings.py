"""[4], and what [3] says of strings."""

import copy
import unittest

from beadshares import strings
from beadshares.errors import BadString, NoPlace, NoRun
from beadshares.strings import String
from tests.samples import NOTHING_RIGHT, SAMPLE, nested, only_tuples

LONG = 10 ** 30
ONE = String(((3, 1),))
SIX = String(((0, 1), (1, LONG), (0, 2), (2, 3), (3, LONG), (1, 7)))


class StringCase(unittest.TestCase):
    def assert_bad(self, number, word, make, *given, **named):
        with self.assertRaises(BadString) as caught:
            make(*given, **named)
        self.assertEqual((caught.exception.number, caught.exception.word), (number, word))
        self.assertIs(type(caught.exception.number), type(number))

    def assert_no_run(self, number, make, *given, **named):
        with self.assertRaises(NoRun) as caught:
            make(*given, **named)
        self.assertIs(caught.exception.number, number)

    def assert_no_place(self, value, make, *given, **named):
        with self.assertRaises(NoPlace) as caught:
            make(*given, **named)
        self.assertIs(caught.exception.value, value)


class MakingTest(StringCase):
    def test_runs_at_the_edges_are_taken(self):
        right = [
            ((0, 1),),
            ((3, LONG),),
            ((0, LONG), (3, 1), (0, 1), (3, LONG), (1, 1), (2, 1)),
        ]
        for runs in right:
            with self.subTest(runs=runs):
                self.assertEqual(String(runs).runs, runs)

    def test_by_name(self):
        self.assertEqual(String(runs=((0, 4),)).runs, ((0, 4),))

    def test_what_is_no_tuple_of_one_to_six_items(self):
        seven = ((0, 1), (1, 1)) * 3 + ((0, 1),)
        lists = [list(SAMPLE.runs), [(0, 4)], {0: (0, 4)}, "ab", SAMPLE, None, 1, True]
        for runs in [(), seven, seven * 2, (None,) * 7, *lists]:
            with self.subTest(runs=runs):
                self.assert_bad(None, "runs", String, runs)

    def test_what_is_no_pair(self):
        wrong = [(), (0,), (0, 1, 2), [0, 1], {0: 1, 1: 2}, "ab", 5, None, True, SAMPLE]
        for run in wrong:
            with self.subTest(run=run):
                self.assert_bad(0, "run", String, (run,))
                self.assert_bad(1, "run", String, ((0, 1), run))

    def test_kinds_that_are_none(self):
        wrong = [-1, 4, 10 ** 60, -10 ** 59, True, False, None, "0", (0,), [0], {}, SAMPLE]
        for kind in wrong:
            with self.subTest(kind=kind):
                self.assert_bad(0, "kind", String, ((kind, 1),))
                self.assert_bad(1, "kind", String, ((1, 1), (kind, 1)))

    def test_lengths_that_are_none(self):
        wrong = [0, -1, LONG + 1, 10 ** 60 - 1, True, False, None, "1", (1,), [1], {}, SAMPLE]
        for length in wrong:
            with self.subTest(length=length):
                self.assert_bad(0, "length", String, ((0, length),))
                self.assert_bad(1, "length", String, ((1, 1), (0, length)))

    def test_a_kind_twice_side_by_side(self):
        self.assert_bad(1, "same", String, ((0, 1), (0, 2)))
        self.assert_bad(2, "same", String, ((0, 1), (3, 2), (3, 1)))
        self.assert_bad(5, "same", String, ((0, 1), (1, 1)) * 2 + ((2, 1), (2, 1)))

    def test_the_first_word_of_a_run_that_is_wrong_in_two_ways(self):
        self.assert_bad(0, "kind", String, ((4, 0),))
        self.assert_bad(0, "kind", String, ((True, True),))
        self.assert_bad(1, "length", String, ((0, 1), (0, 0)))
        self.assert_bad(1, "run", String, ((0, 1), (0, 0, 9)))

    def test_the_first_of_two_wrong_runs(self):
        self.assert_bad(0, "length", String, ((0, 0), None))
        self.assert_bad(1, "same", String, ((0, 1), (0, 1), None, (9, 9)))
        self.assert_bad(2, "kind", String, ((0, 1), (1, 1), (4, 1), (4, 1)))

    def test_the_number_of_items_comes_ahead_of_the_items(self):
        self.assert_bad(None, "runs", String, [None])
        self.assert_bad(None, "runs", String, ((0, 0),) * 7)

    def test_any_value_that_is_not_right_is_refused(self):
        for value in NOTHING_RIGHT:
            with self.subTest(value=value), self.assertRaises(BadString):
                String(value)
            with self.subTest(run=value):
                self.assert_bad(1, "run" if value != (None, None) else "kind",
                                String, ((0, 1), value))
        self.assert_bad(0, "run", String, nested(12))


class PropertiesTest(StringCase):
    def test_the_document_s_string(self):
        self.assertEqual(SAMPLE.runs, ((0, 4), (1, 2), (0, 2), (1, 4)))
        self.assertEqual(SAMPLE.length, 12)
        self.assertEqual(SAMPLE.totals, (6, 6, 0, 0))
        self.assertEqual(SAMPLE.kinds, (0, 1))

    def test_one_run(self):
        self.assertEqual((ONE.runs, ONE.length), (((3, 1),), 1))
        self.assertEqual((ONE.totals, ONE.kinds), ((0, 0, 0, 1), (3,)))

    def test_six_runs_with_great_lengths(self):
        self.assertEqual(SIX.length, 2 * LONG + 13)
        self.assertEqual(SIX.totals, (3, LONG + 7, 3, LONG))
        self.assertEqual(SIX.kinds, (0, 1, 2, 3))

    def test_kinds_are_ascending_and_only_those_that_occur(self):
        self.assertEqual(String(((3, 1), (0, 1), (3, 1))).kinds, (0, 3))
        self.assertEqual(String(((2, 1), (1, 1))).kinds, (1, 2))

    def test_they_can_only_be_read(self):
        for name in ("runs", "length", "totals", "kinds"):
            string = String(SAMPLE.runs)
            with self.subTest(name=name):
                with self.assertRaises(AttributeError):
                    setattr(string, name, getattr(ONE, name))
                with self.assertRaises(AttributeError):
                    delattr(string, name)
                self.assertEqual(getattr(string, name), getattr(SAMPLE, name))

    def test_kinds_of_values(self):
        for string in (SAMPLE, ONE, SIX):
            for value in (string.runs, string.totals, string.kinds, string[0],
                          string.counts(0, 1), string.turned().runs):
                self.assertIs(type(value), tuple)
                self.assertTrue(only_tuples(value))
            self.assertIs(type(string.length), int)
            self.assertIs(type(string == ONE), bool)
            self.assertIs(type(string != ONE), bool)
            self.assertIs(type(str(string)), str)
            self.assertIs(type(len(string)), int)

    def test_the_interface_stands_in_the_class_itself(self):
        self.assertEqual(String.__module__, strings.__name__)
        for name in ("runs", "length", "totals", "kinds"):
            self.assertIsInstance(vars(String)[name], property)
        for name in ("counts", "turned", "with_run", "joined",
                     "__getitem__", "__len__", "__eq__", "__str__"):
            self.assertTrue(callable(vars(String)[name]))


class RunTest(StringCase):
    def test_each_run(self):
        for string in (SAMPLE, ONE, SIX):
            for number, run in enumerate(string.runs):
                self.assertEqual(string[number], run)
            self.assertEqual(string[len(string) - 1], string.runs[-1])

    def test_numbers_of_no_run(self):
        for string in (SAMPLE, ONE, SIX):
            for number in [len(string), len(string) + 1, -1, -len(string), *NOTHING_RIGHT]:
                with self.subTest(number=number):
                    self.assert_no_run(number, string.__getitem__, number)

    def test_the_index_itself_raises(self):
        with self.assertRaises(LookupError):
            SAMPLE[4]
        with self.assertRaises(NoRun):
            SAMPLE[True]

    def test_len_is_the_number_of_runs(self):
        self.assertEqual((len(SAMPLE), len(ONE), len(SIX)), (4, 1, 6))

    def test_strings_are_not_walked_over(self):
        with self.assertRaises(TypeError):
            list(SAMPLE)


class EqualTest(StringCase):
    def test_equal_runs(self):
        for string in (SAMPLE, ONE, SIX):
            twin = String(tuple(tuple(run) for run in string.runs))
            self.assertIs(string == twin, True)
            self.assertIs(string != twin, False)
            self.assertIs(string == string, True)

    def test_other_runs(self):
        others = [ONE, SIX, SAMPLE.turned(), String(SAMPLE.runs[:3]),
                  String(((0, 5), (1, 2), (0, 1), (1, 4))),
                  String(((2, 4), (1, 2), (0, 2), (1, 4)))]
        for other in others:
            self.assertIs(SAMPLE == other, False)
            self.assertIs(SAMPLE != other, True)

    def test_any_value(self):
        string = String(((0, 1), (1, 1)))
        for other in [*NOTHING_RIGHT, string.runs, list(string.runs), str(string), 2]:
            with self.subTest(other=other):
                self.assertIs(string == other, False)
                self.assertIs(string != other, True)
                self.assertIs(other == string, False)


class TextTest(StringCase):
    def test_always_these_words(self):
        self.assertEqual(str(SAMPLE), "4 runs, 12 beads")
        self.assertEqual(str(ONE), "1 runs, 1 beads")
        self.assertEqual(str(SIX), "6 runs, 2" + "0" * 28 + "13 beads")


class CountsTest(StringCase):
    def test_the_document_s_places(self):
        self.assertEqual(SAMPLE.counts(3, 7), (2, 2, 0, 0))

    def test_as_the_beads_tell_one_by_one(self):
        for string in (SAMPLE, SAMPLE.turned(), ONE, String(((2, 3), (0, 1), (3, 2), (1, 1)))):
            beads = [kind for kind, length in string.runs for _ in range(length)]
            for last in range(len(beads) + 1):
                for first in range(last + 1):
                    part = beads[first:last]
                    told = tuple(part.count(kind) for kind in range(4))
                    self.assertEqual(string.counts(first, last), told)

    def test_edges(self):
        for string in (SAMPLE, ONE, SIX):
            self.assertEqual(string.counts(0, string.length), string.totals)
            self.assertEqual(string.counts(0, 0), (0, 0, 0, 0))
            self.assertEqual(string.counts(string.length, string.length), (0, 0, 0, 0))

    def test_great_places(self):
        self.assertEqual(SIX.counts(LONG, LONG + 4), (2, 1, 1, 0))
        self.assertEqual(SIX.counts(2, 2 * LONG), (2, LONG - 1, 3, LONG - 6))

    def test_by_name(self):
        self.assertEqual(SAMPLE.counts(last=7, first=3), SAMPLE.counts(3, 7))

    def test_values_that_are_no_places(self):
        for string in (SAMPLE, ONE, SIX):
            for value in [-1, string.length + 1, *NOTHING_RIGHT]:
                with self.subTest(value=value):
                    self.assert_no_place(value, string.counts, value, 0)
                    self.assert_no_place(value, string.counts, 0, value)
                    self.assert_no_place(value, string.counts, string.length, value)

    def test_the_first_of_two_that_are_no_places(self):
        self.assert_no_place(13, SAMPLE.counts, 13, -1)
        self.assert_no_place("3", SAMPLE.counts, "3", None)
        held = [1]
        self.assert_no_place(held, SAMPLE.counts, held, [1])

    def test_last_below_first(self):
        first, last = 12, 11
        self.assert_no_place(last, SAMPLE.counts, first, last)
        self.assert_no_place(0, SAMPLE.counts, 1, 0)
        self.assert_no_place(-1, SAMPLE.counts, 1, -1)
        self.assert_no_place(13, SAMPLE.counts, 13, 0)


class TurnedTest(StringCase):
    def test_read_from_the_end(self):
        self.assertEqual(SAMPLE.turned().runs, ((1, 4), (0, 2), (1, 2), (0, 4)))
        self.assertEqual(SIX.turned().runs, SIX.runs[::-1])
        self.assertEqual(ONE.turned(), ONE)
        self.assertEqual(SAMPLE.turned().turned(), SAMPLE)

    def test_it_is_a_string_of_its_own(self):
        turned = SAMPLE.turned()
        self.assertIsInstance(turned, String)
        self.assertEqual((turned.length, turned.totals, turned[0]), (12, (6, 6, 0, 0), (1, 4)))
        self.assertEqual(SAMPLE.runs, ((0, 4), (1, 2), (0, 2), (1, 4)))


class WithRunTest(StringCase):
    def test_first_middle_last(self):
        self.assertEqual(SAMPLE.with_run(0, (3, 1)).runs, ((3, 1), (1, 2), (0, 2), (1, 4)))
        self.assertEqual(SAMPLE.with_run(1, (2, LONG)).runs, ((0, 4), (2, LONG), (0, 2), (1, 4)))
        self.assertEqual(SAMPLE.with_run(3, (1, 5)).runs, ((0, 4), (1, 2), (0, 2), (1, 5)))
        self.assertEqual(ONE.with_run(0, (0, 2)).runs, ((0, 2),))
        self.assertEqual(SIX.with_run(5, (0, 2)).runs, SIX.runs[:5] + ((0, 2),))

    def test_the_run_that_is_there(self):
        for number, run in enumerate(SAMPLE.runs):
            self.assertEqual(SAMPLE.with_run(number, run), SAMPLE)

    def test_by_name(self):
        self.assertEqual(SAMPLE.with_run(run=(2, 9), number=1), SAMPLE.with_run(1, (2, 9)))

    def test_the_totals_are_those_of_the_new_runs(self):
        string = SAMPLE.with_run(1, (2, 9))
        self.assertEqual((string.length, string.totals), (19, (6, 4, 9, 0)))
        self.assertEqual((string.kinds, str(string)), ((0, 1, 2), "4 runs, 19 beads"))

    def test_numbers_of_no_run(self):
        for number in [4, 5, -1, -4, *NOTHING_RIGHT]:
            with self.subTest(number=number):
                self.assert_no_run(number, SAMPLE.with_run, number, (2, 9))

    def test_the_number_comes_ahead_of_the_run(self):
        self.assert_no_run(4, SAMPLE.with_run, 4, None)
        self.assert_no_run(True, SAMPLE.with_run, True, (9, 9))

    def test_wrong_runs(self):
        self.assert_bad(1, "run", SAMPLE.with_run, 1, [2, 9])
        self.assert_bad(2, "kind", SAMPLE.with_run, 2, (4, 9))
        self.assert_bad(3, "kind", SAMPLE.with_run, 3, (True, 9))
        self.assert_bad(0, "length", SAMPLE.with_run, 0, (0, 0))
        self.assert_bad(0, "length", SAMPLE.with_run, 0, (0, LONG + 1))
        for run in NOTHING_RIGHT:
            with self.subTest(run=run), self.assertRaises(BadString) as caught:
                SAMPLE.with_run(2, run)
            self.assertEqual(caught.exception.number, 2)

    def test_a_kind_twice_side_by_side(self):
        self.assert_bad(1, "same", SAMPLE.with_run, 1, (0, 2))
        self.assert_bad(1, "same", SAMPLE.with_run, 0, (1, 2))
        self.assert_bad(3, "same", SAMPLE.with_run, 3, (0, 2))


class JoinedTest(StringCase):
    def test_unlike_kinds_at_the_seam(self):
        self.assertEqual(SAMPLE.joined(ONE).runs, SAMPLE.runs + ((3, 1),))
        self.assertEqual(ONE.joined(SAMPLE).runs, ((3, 1),) + SAMPLE.runs)

    def test_one_kind_at_the_seam(self):
        joined = SAMPLE.joined(String(((1, 3),)))
        self.assertEqual(joined.runs, ((0, 4), (1, 2), (0, 2), (1, 7)))
        self.assertEqual((joined[3], joined.length), ((1, 7), 15))
        self.assertEqual(ONE.joined(ONE).runs, ((3, 2),))
        behind = String(((1, 1), (0, 9), (2, 1)))
        self.assertEqual(SAMPLE.joined(behind).runs, SAMPLE.runs[:3] + ((1, 5), (0, 9), (2, 1)))

    def test_only_the_seam_matters(self):
        self.assertEqual(String(((0, 1), (1, 1))).joined(String(((0, 1), (1, 1)))).runs,
                         ((0, 1), (1, 1), (0, 1), (1, 1)))

    def test_by_name(self):
        self.assertEqual(SAMPLE.joined(other=ONE), SAMPLE.joined(ONE))

    def test_six_runs_and_more(self):
        two = String(((3, 1), (1, 2)))
        self.assertEqual(SAMPLE.joined(two).runs, SAMPLE.runs + two.runs)
        self.assertEqual(len(SIX.joined(String(((1, 1),)))), 6)
        self.assert_bad(None, "runs", SIX.joined, ONE)
        self.assert_bad(None, "runs", SAMPLE.joined, SAMPLE)
        self.assert_bad(None, "runs", SIX.joined, String(((1, 1), (0, 1))))

    def test_a_seam_that_is_too_long(self):
        most = String(((0, 1), (1, LONG - 1)))
        self.assertEqual(most.joined(String(((1, 1),))).runs, ((0, 1), (1, LONG)))
        self.assert_bad(1, "length", most.joined, String(((1, 2),)))
        self.assert_bad(None, "runs", SIX.joined, String(((1, LONG), (0, 1))))

    def test_neither_string_changes(self):
        front, behind = String(((0, 1), (1, 2))), String(((1, 3), (0, 1)))
        front.joined(behind)
        self.assertEqual((front.runs, behind.runs), (((0, 1), (1, 2)), ((1, 3), (0, 1))))


class SameAgainTest(StringCase):
    def test_equal_calls_give_equal_results(self):
        again = copy.deepcopy(SAMPLE)
        for _ in range(2):
            self.assertEqual(again.counts(3, 7), SAMPLE.counts(3, 7))
            self.assertEqual(again.turned(), SAMPLE.turned())
            self.assertEqual(again.with_run(0, (2, 1)), SAMPLE.with_run(0, (2, 1)))
            self.assertEqual(again.joined(ONE), SAMPLE.joined(ONE))

    def test_calls_that_raise_change_nothing(self):
        string = String(SAMPLE.runs)
        other = String(SIX.runs)
        held = [[0, 4]]
        calls = [
            lambda: string.counts(5, 4), lambda: string.counts(None, 4), lambda: string[held],
            lambda: string.with_run(9, held), lambda: string.with_run(0, held),
            lambda: string.joined(other), lambda: String(held),
        ]
        for call in calls:
            with self.assertRaises((BadString, NoPlace, NoRun)):
                call()
            self.assertEqual((string.runs, string.length), (SAMPLE.runs, 12))
            self.assertEqual((string.totals, string.kinds), (SAMPLE.totals, SAMPLE.kinds))
            self.assertEqual((other, held), (SIX, [[0, 4]]))


if __name__ == "__main__":
    unittest.main()
