"""[16] to [18], and [2] (f)."""

import itertools
import random
import unittest

from beadshares.dealings import dealing_error
from beadshares.plans import fails, pattern_error, plan_dealing, plan_error, string_of
from beadshares.strings import String
from tests import brute
from tests.samples import LONG, NOTHING_RIGHT, SAMPLE, only_tuples, spoilt

A = ((0, 2, 8, 2), (1, 2, 8, 2))
HALVES = (((0, (2, 0, (1, 0))), (1, (2, 0, (0, 1)))), (0, 1, 0))
SIX = tuple((number % 4, 1, LONG, step) for number, step in enumerate((1, 2, 3, 5, 11, 12)))


class PatternErrorTest(unittest.TestCase):
    def assert_wrong(self, number, word, value):
        with self.subTest(value=value):
            found = pattern_error(value)
            self.assertEqual(found, (number, word))
            self.assertEqual((type(found), type(found[0])), (tuple, type(number)))

    def assert_item(self, word, item):
        """Hold that an item is wrong, at first and behind others."""
        self.assert_wrong(0, word, (item,))
        self.assert_wrong(1, word, ((1, 1, 1, 1), item))
        self.assert_wrong(2, word, ((2, 1, 1, 1), (1, 1, 9, 4), item, None))

    def test_patterns(self):
        for value in (A, SIX, ((0, 1, 1, 1),), ((3, LONG, LONG, 12),), ((2, 1, LONG, 12),),
                      ((0, 5, 6, 12), (1, 1, 1, 1), (0, 5, 6, 12))):
            self.assertIsNone(pattern_error(value))

    def test_what_is_no_tuple_of_one_to_six_items(self):
        seven = ((0, 1, 1, 1), (1, 1, 1, 1)) * 3 + ((0, 1, 1, 1),)
        for value in ((), seven, (None,) * 7, list(A), {0: A[0]}, "pattern", None, True, 0, SAMPLE):
            self.assert_wrong(None, "pattern", value)

    def test_what_is_no_item(self):
        for item in ((), (0, 1, 1), (0, 1, 1, 1, 1), [0, 1, 1, 1], "item", None, True, 0, {}, SAMPLE):
            self.assert_item("item", item)

    def test_kinds(self):
        for kind in (-1, 4, True, False, None, "0", (0,), [0], 10 ** 60 - 1, SAMPLE):
            self.assert_item("kind", (kind, 1, 1, 1))

    def test_bounds(self):
        wrong = (0, -1, True, False, None, "1", (1,), [1], LONG + 1, SAMPLE)
        for bound in wrong:
            self.assert_item("bounds", (0, bound, 5, 1))
            self.assert_item("bounds", (0, 1, bound, 1))
        self.assert_item("bounds", (0, 2, 1, 1))
        self.assert_item("bounds", (0, LONG, LONG - 1, 1))
        self.assert_item("bounds", (0, LONG + 1, LONG + 1, 1))

    def test_steps(self):
        for step in (0, -1, 13, True, False, None, "1", (1,), [1], LONG, SAMPLE):
            self.assert_item("step", (0, 1, 5, step))

    def test_a_kind_twice_side_by_side(self):
        self.assert_wrong(1, "same", ((0, 1, 1, 1), (0, 2, 2, 1)))
        self.assert_wrong(2, "same", ((0, 1, 1, 1), (3, 2, 2, 1), (3, 2, 2, 1)))
        self.assert_wrong(5, "same", SIX[:5] + ((SIX[4][0], 1, 1, 1),))

    def test_items_wrong_in_two_ways(self):
        self.assert_item("item", (4, 0, 0))
        self.assert_item("kind", (4, 0, 0, 0))
        self.assert_item("bounds", (0, 2, 1, 0))
        self.assert_wrong(1, "step", ((0, 1, 1, 1), (0, 1, 1, 0)))
        self.assert_wrong(1, "bounds", ((0, 1, 1, 1), (0, 1, 0, 1)))

    def test_two_wrong_items(self):
        self.assert_wrong(0, "step", ((0, 1, 1, 0), None))
        self.assert_wrong(1, "same", ((0, 1, 1, 1), (0, 1, 1, 1), (4, 1, 1, 1)))
        self.assert_wrong(1, "item", ((0, 1, 1, 1), (), (0, 1, 1, 1)))

    def test_any_value(self):
        for value in NOTHING_RIGHT:
            found = pattern_error(value)
            self.assertTrue(only_tuples(found))
            self.assertIsNotNone(found)
            self.assertEqual(pattern_error((A[0], value))[0], 1)
        for value in spoilt(A):
            # One item alone is a pattern, too.
            self.assertEqual(pattern_error(value) is None, value in (A[:1], A[1:]))


class StringOfTest(unittest.TestCase):
    def test_lengths(self):
        self.assertEqual(string_of(A, (4, 6)), String(((0, 4), (1, 6))))
        self.assertEqual(string_of(((3, 1, 1, 1),), (1,)), String(((3, 1),)))
        runs = tuple((item[0], LONG) for item in SIX)
        self.assertEqual(string_of(SIX, (LONG,) * 6).runs, runs)
        self.assertIsInstance(string_of(A, (2, 2)), String)


class PlanErrorTest(unittest.TestCase):
    def assert_error(self, expected, value, pattern=A, many=2):
        with self.subTest(value=value, many=many):
            self.assertEqual(plan_error(pattern, many, value), expected)

    def assert_formula(self, expected, formula):
        """Hold whether a formula is right, as the first and as the second cut's."""
        first, second = HALVES[0]
        self.assert_error(expected, (((0, formula), second), (0, 1, 0)))
        self.assert_error(expected, ((first, (1, formula)), (0, 1, 0)))

    def test_plans(self):
        for many in (2, 3):
            self.assert_error(None, HALVES, many=many)
            self.assert_error(None, ((), (1,)), many=many)
            self.assert_error(None, (HALVES[0][:1] * 4, (0, 1, 0, 1, 0)), many=many)
        self.assert_error(None, (HALVES[0], (2, 1, 0)), many=3)
        formula = (12, -LONG, (100, -100, 0, 1, 2, 3))
        self.assert_error(None, (((0, formula), (0, formula), (5, formula), (5, formula)),
                                 (0, 1, 2, 1, 2)), SIX, 3)

    def test_no_pair(self):
        for value in ((), HALVES[:1], (*HALVES, 0), list(HALVES), "ab", None, True, {}, SAMPLE):
            self.assert_error("plan", value)

    def test_cuts(self):
        cut = HALVES[0][0]
        for cuts in ([cut], None, 0, "", {}, cut, (cut[1],), ((0,),), ((*cut, 0),), ([*cut],), (None,)):
            self.assert_error("cuts", (cuts, (0, 1)))
        self.assert_error("cuts", (HALVES[0][:1] * 5, (0, 1, 0, 1, 0, 1)))

    def test_numbers(self):
        formula = HALVES[0][0][1]
        for number in (-1, 2, True, False, None, "0", (0,), [0], 10 ** 60 - 1, SAMPLE):
            self.assert_error("cuts", (((number, formula),), (0, 1)))
            self.assert_error("cuts", (((0, formula), (number, formula)), (0, 1, 0)))
        self.assert_error("cuts", (((1, formula), (0, formula)), (0, 1, 0)))
        self.assert_error(None, (((1, formula), (1, formula)), (0, 1, 0)))

    def test_formulas(self):
        for formula in ((), (2, 0), (2, 0, (1, 0), 0), [2, 0, (1, 0)], None, 2, "abc", SAMPLE):
            self.assert_formula("cuts", formula)
        for bottom in (1, 12):
            self.assert_formula(None, (bottom, 0, (1, 0)))
        for bottom in (0, 13, -1, True, False, None, "2", (2,), SAMPLE):
            self.assert_formula("cuts", (bottom, 0, (1, 0)))
        for constant in (LONG, -LONG, 0):
            self.assert_formula(None, (2, constant, (1, 0)))
        for constant in (LONG + 1, -LONG - 1, True, False, None, "0", (0,), SAMPLE):
            self.assert_formula("cuts", (2, constant, (1, 0)))

    def test_factors(self):
        for factors in ((100, -100), (0, 0)):
            self.assert_formula(None, (2, 0, factors))
        for factors in ((), (1,), (1, 0, 0), [1, 0], {0: 1, 1: 0}, "10", None, 1):
            self.assert_formula("cuts", (2, 0, factors))
        for factor in (101, -101, True, False, None, "1", (1,), SAMPLE):
            self.assert_formula("cuts", (2, 0, (factor, 0)))
            self.assert_formula("cuts", (2, 0, (0, factor)))

    def test_takers(self):
        cuts = HALVES[0]
        for takers in ((), (0, 1), (0, 1, 0, 1), (0, 0, 1), (0, 1, 1), (0, 1, 2), (0, -1, 0), [0, 1, 0],
                       (0, True, 0), (False, 1, 0), (0, 1, None), (0, 1, "0"), None, 0, "010", SAMPLE):
            self.assert_error("takers", (cuts, takers))
        self.assert_error("takers", (cuts, (0, 1, 3)), many=3)
        self.assert_error("takers", ((), ()))

    def test_the_first_word_of_two(self):
        self.assert_error("cuts", (None, None))
        self.assert_error("plan", (None, None, None))

    def test_any_value(self):
        for value in NOTHING_RIGHT:
            self.assert_error("cuts" if value == (None, None) else "plan", value)
            self.assert_error("takers" if value == () else "cuts", (value, (0, 1)))
            self.assert_error("takers", (HALVES[0], value))
            self.assert_formula("cuts", value)
        for value in spoilt(HALVES):
            self.assertIn(plan_error(A, 2, value), (None, "plan", "cuts", "takers"))


class PlanDealingTest(unittest.TestCase):
    def test_the_document_s_example(self):
        self.assertEqual(plan_dealing(A, HALVES, (4, 6)), ((2, 7), (0, 1, 0)))

    def test_no_cut(self):
        self.assertEqual(plan_dealing(A, ((), (1,)), (4, 6)), ((), (1,)))

    def test_in_the_plan_s_order_and_a_dealing_or_not(self):
        def cut(number, constant):
            return number, (1, constant, (0, 0))
        cuts = (cut(0, 9), cut(0, -3), cut(1, 0), cut(1, 0))
        self.assertEqual(plan_dealing(A, (cuts, (0, 1, 0, 1, 0)), (4, 6)), ((9, -3, 4, 4), (0, 1, 0, 1, 0)))

    def test_negative_values(self):
        plan = (((1, (3, -1, (-1, 0))),), (0, 1))
        self.assertEqual(plan_dealing(A, plan, (2, 6)), ((1,), (0, 1)))
        self.assertEqual(plan_dealing(A, plan, (8, 6)), ((5,), (0, 1)))

    def test_great_lengths(self):
        factors = (100, -100, 7, 0, 1, -1)
        lengths = (LONG, 1, LONG - 5, 2, 3, 4)
        top = -LONG + 100 * LONG - 100 + 7 * (LONG - 5) + 3 - 4
        plan = (((5, (1, -LONG, factors)),), (0, 1))
        self.assertEqual(plan_dealing(SIX, plan, lengths), ((sum(lengths[:5]) + top,), (0, 1)))
        lengths = (LONG, 1, LONG, 2, 3, 4)
        found = plan_dealing(SIX, (((2, (4, LONG, (4, 0, 0, 0, 0, 0))),), (0, 1)), lengths)
        self.assertEqual(found, ((LONG + 1 + LONG // 4 + LONG,), (0, 1)))

    def test_what_is_right_is_a_dealing(self):
        for lengths in brute.lengths_of(A):
            dealing = plan_dealing(A, HALVES, lengths)
            self.assertTrue(only_tuples(dealing))
            self.assertIsNone(dealing_error(string_of(A, lengths), 2, dealing))


def share_plan(weights, many):
    """Return a plan that shares each of the first many runs by itself.

    With two takers each run has one cut, with three each has two; it is right where all
    lengths are multiples of the sum of the weights.
    """
    whole = sum(weights)
    takers = list(range(len(weights)))
    cuts, row = [], [0]
    for number in range(many):
        order = takers if number % 2 == 0 else takers[::-1]
        ahead = 0
        for taker, behind in zip(order, order[1:]):
            ahead += weights[taker]
            factors = tuple(ahead if at == number else 0 for at in range(many))
            cuts.append((number, (whole, 0, factors)))
            row.append(behind)
    return tuple(cuts), tuple(row)


class FailsTest(unittest.TestCase):
    def assert_fails(self, pattern, weights, plan, expected):
        """Hold fails where it is known whether there are lengths for which a plan is wrong."""
        with self.subTest(pattern=pattern, weights=weights, plan=plan):
            self.assertIsNone(pattern_error(pattern))
            self.assertIsNone(plan_error(pattern, len(weights), plan))
            found = fails(pattern, weights, plan)
            self.assertTrue(only_tuples(found))
            if not expected:
                self.assertIsNone(found)
                return
            self.assertIsInstance(found, tuple)
            self.assertEqual(len(found), len(pattern))
            for length, (_, low, high, step) in zip(found, pattern):
                self.assertTrue(low <= length <= high and (length - low) % step == 0)
            self.assertFalse(brute.plan_is_right(pattern, weights, plan, found))

    def assert_all(self, pattern, weights, plan):
        """Hold fails against all lengths of a pattern; return whether it fails."""
        right = [brute.plan_is_right(pattern, weights, plan, lengths)
                 for lengths in brute.lengths_of(pattern)]
        self.assert_fails(pattern, weights, plan, not all(right))
        return not all(right)

    def test_the_document_s_examples(self):
        self.assertIsNone(fails(A, (1, 1), HALVES))
        self.assert_all(A, (1, 1), HALVES)
        self.assertTrue(self.assert_all(A, (1, 2), HALVES))

    def test_plans_that_share_each_run(self):
        cases = [((1, 1), 4), ((1, 2), 3), ((5, 7), 2), ((1, 11), 4), ((1, 1, 1), 2), ((1, 2, 3), 2),
                 ((5, 1, 6), 2), ((3, 8, 1), 1)]
        for weights, many in cases:
            whole = sum(weights)
            plan = share_plan(weights, many)
            for high, step in ((whole, whole), (3 * whole, whole), (3 * whole + 1, whole)):
                pattern = tuple((number % 3, whole, high, min(step, 12)) for number in range(many))
                self.assertFalse(self.assert_all(pattern, weights, plan))
            great = tuple((number % 4, whole, LONG, whole) for number in range(many))
            self.assert_fails(great, weights, plan, False)
            for at, step in itertools.product(range(many), (1, 5, whole - 1)):
                if step % whole == 0 or step < 1:
                    continue
                wrong = great[:at] + ((great[at][0], whole, LONG, step),) + great[at + 1:]
                self.assert_fails(wrong, weights, plan, True)
            self.assert_fails(great, (*weights[:-1], weights[-1] + 1), plan, True)

    def test_one_low_bead_too_few(self):
        # With one bead a run has no room for its cut.
        plan = (((0, (2, 0, (1,))),), (0, 1))
        self.assertFalse(self.assert_all(((0, 2, 9, 2),), (1, 1), plan))
        self.assertTrue(self.assert_all(((0, 1, 9, 2),), (1, 1), plan))
        self.assertTrue(self.assert_all(((0, 2, 9, 1),), (1, 1), plan))
        self.assertFalse(self.assert_all(((0, 2, 3, 2),), (1, 1), plan))
        self.assertFalse(self.assert_all(((0, 2, 2, 1),), (1, 1), plan))

    def test_steps_that_do_not_reach_high(self):
        # All lengths are 2, 9 and 16: 17 is none, and the two between are.
        plan = (((0, (2, 0, (1,))),), (0, 1))
        self.assertFalse(self.assert_all(((0, 2, 8, 7),), (1, 1), plan))
        self.assertTrue(self.assert_all(((0, 2, 17, 7),), (1, 1), plan))
        self.assert_fails(((0, 2, LONG, 7),), (1, 1), plan, True)
        self.assert_fails(((0, LONG - 2, LONG, 3),), (1, 1), plan, False)
        self.assert_fails(((0, LONG - 3, LONG, 3),), (1, 1), plan, True)

    def test_no_cut(self):
        for weights in ((1, 1), (1, 1000), (1, 1, 1)):
            for taker in range(len(weights)):
                self.assertTrue(self.assert_all(A, weights, ((), (taker,))))

    def test_weights_of_one_and_a_thousand(self):
        # No bottom is 1001, but a length that never changes needs none.
        for weights, place in (((1, 1000), 1), ((1000, 1), 1000)):
            pattern = ((0, 1001, 1001, 1), (1, 1001, 1001, 12))
            cut, behind = (0, (1, place, (0, 0))), (1, (1, 1001 - place, (0, 0)))
            plan = ((cut, behind), (0, 1, 0))
            self.assert_fails(pattern, weights, plan, False)
            self.assert_fails(pattern, weights[::-1], plan, True)
            self.assert_fails((pattern[0], (1, 1001, 1013, 12)), weights, plan, True)
        self.assert_fails(A, (1000, 1000), HALVES, False)

    def test_constants_of_thirty_digits(self):
        pattern = ((0, LONG, LONG, 1), (1, LONG, LONG, 1))
        half = LONG // 2
        for first, second in (((1, half, (0, 0)), (2, LONG, (0, 0))), ((2, -LONG, (1, 1)), (1, -half, (0, 1)))):
            plan = (((0, first), (1, second)), (0, 1, 0))
            self.assert_fails(pattern, (1, 1), plan, False)
        plan = (((0, (12, LONG, (5, 0))), (1, (12, -LONG, (0, 7)))), (0, 1, 0))
        self.assert_fails(pattern, (1, 1), plan, False)
        self.assert_fails(((0, LONG - 12, LONG, 12), pattern[1]), (1, 1), plan, True)

    def test_factors_of_a_hundred(self):
        # The factors take each other back where all lengths are alike.
        plan = (((0, (12, 0, (100, -94))), (1, (12, 0, (-94, 100)))), (0, 1, 0))
        pattern = ((0, 600, 600, 1), (1, 600, 600, 1))
        self.assert_fails(pattern, (1, 1), plan, False)
        self.assert_fails((pattern[0], (1, 600, 612, 12)), (1, 1), plan, True)

    def test_a_cut_at_the_end_of_its_run(self):
        cuts = ((0, (1, 0, (1, 0, 0))), (1, (2, 0, (0, 1, 0))), (1, (1, 0, (0, 1, 0))))
        plan = (cuts, (0, 1, 0, 1))
        self.assertTrue(self.assert_all(((0, 2, 2, 1), (1, 2, 2, 1), (0, 3, 3, 1)), (1, 1), plan))
        pattern = ((0, 2, 2, 1), (1, 2, 6, 2), (0, 2, 2, 1))
        self.assertFalse(self.assert_all(pattern, (1, 1), plan))
        self.assert_fails(((0, 2, 2, 1), (1, 2, LONG, 2), (0, 2, 2, 1)), (1, 1), plan, False)
        # A bead more, and it lies behind its run's end, though at a place of the string.
        behind = ((*cuts[:2], (1, (1, 1, (0, 1, 0)))), (0, 1, 0, 1))
        self.assertTrue(self.assert_all(pattern, (1, 1), behind))

    def test_a_cut_that_is_told_from_another_run(self):
        # The same place, told as an end or as one at no bead of the next run.
        pattern = ((0, 2, 2, 1), (1, 2, 2, 1), (0, 2, 2, 1), (1, 2, 2, 1))
        end = (((1, (1, 0, (0, 1, 0, 0))),), (0, 1))
        start = (((2, (1, 0, (0, 0, 0, 0))),), (0, 1))
        late = (((0, (1, 2, (0, 1, 0, 0))),), (0, 1))
        for plan in (end, start, late):
            self.assertEqual(plan_dealing(pattern, plan, (2, 2, 2, 2)), ((4,), (0, 1)))
        self.assertFalse(self.assert_all(pattern, (1, 1), end))
        self.assertTrue(self.assert_all(pattern, (1, 1), start))
        self.assertTrue(self.assert_all(pattern, (1, 1), late))

    def test_a_cut_behind_the_last_bead(self):
        # What the last piece would have had is none, so the amounts alone tell nothing.
        pattern = ((0, 2, 6, 2), (1, 2, 6, 2))
        plan = ((*HALVES[0], (1, (1, 0, (0, 1)))), (0, 1, 0, 1))
        self.assertTrue(self.assert_all(pattern, (1, 1), plan))
        first = ((0, (1, 0, (0, 0))), *HALVES[0])
        self.assertTrue(self.assert_all(pattern, (1, 1), (first, (1, 0, 1, 0))))

    def test_cuts_that_do_not_ascend(self):
        twice = (((0, (2, 0, (1,))), (0, (2, 0, (1,))), (0, (2, 0, (1,)))), (0, 1, 0, 1))
        self.assertTrue(self.assert_all(((0, 2, 8, 2),), (1, 1), twice))
        back = (((0, (4, 0, (3,))), (0, (4, 0, (1,)))), (0, 1, 0))
        self.assertTrue(self.assert_all(((0, 4, 8, 4),), (1, 1), back))
        self.assertFalse(self.assert_all(((0, 4, 8, 4),), (1, 1), (back[0][::-1], (0, 1, 0))))

    def test_several_cuts_in_one_run(self):
        cuts = tuple((0, (8, 0, (at,))) for at in (1, 3, 5, 7))
        self.assertFalse(self.assert_all(((0, 8, 33, 8),), (1, 1), (cuts, (0, 1, 0, 1, 0))))
        self.assert_fails(((0, 8, LONG, 8),), (1, 1), (cuts, (0, 1, 0, 1, 0)), False)
        self.assert_fails(((0, 8, LONG, 4),), (1, 1), (cuts, (0, 1, 0, 1, 0)), True)
        self.assertFalse(self.assert_all(((0, 8, 33, 8),), (1, 2, 1), (cuts, (0, 1, 2, 1, 0))))
        self.assertTrue(self.assert_all(((0, 8, 33, 8),), (2, 1, 1), (cuts, (0, 1, 2, 1, 0))))

    def test_right_at_small_lengths_and_wrong_at_great_ones(self):
        # Taker 0 has from each end of kind 0 half of what the other end has.
        cuts = ((0, (2, 0, (0, 0, 1, 0))), (1, (2, 0, (0, 1, 0, 0))), (2, (2, 0, (1, 0, 0, 0))),
                (3, (2, 0, (0, 0, 0, 1))))
        plan = (cuts, (0, 1, 0, 1, 0))

        def pattern(high):
            return ((0, 1000, 1000, 1), (1, 2, 2, 2), (0, 1002, high, 2), (2, 2, 8, 2))
        self.assert_fails(pattern(2000), (1, 1), plan, False)
        self.assert_fails(pattern(2001), (1, 1), plan, False)
        self.assert_fails(pattern(2002), (1, 1), plan, True)
        self.assert_fails(pattern(LONG), (1, 1), plan, True)
        small = ((0, 6, 6, 1), (1, 2, 2, 2), (0, 4, 14, 2), (2, 2, 4, 2))
        self.assertTrue(self.assert_all(small, (1, 1), plan))
        self.assertFalse(self.assert_all(small[:2] + ((0, 4, 13, 2),) + small[3:], (1, 1), plan))

    def test_wrong_at_the_greatest_lengths_alone(self):
        # A cut told by two lengths, of which only both greatest ones lead it out of its run.
        half = LONG // 2
        cuts = ((0, (2, 0, (1, 0, 1))), (1, (2, 0, (0, 1, 0))), (1, (1, 0, (0, 1, 0))))
        plan = (cuts, (0, 1, 0, 1))
        self.assert_fails(((0, half, LONG, 2), (1, 2, LONG, 2), (0, 2, half, 2)), (1, 1), plan, False)
        self.assert_fails(((0, half, LONG, 2), (1, 2, LONG, 2), (0, 2, half + 2, 2)), (1, 1), plan, True)

    def test_wrong_at_lengths_of_one_remainder_alone(self):
        # The first cut halves all of kind 0, so it is none where that is odd.
        cuts = ((0, (2, 0, (1, 0, 1))), (1, (2, 0, (0, 1, 0))), (1, (1, 0, (0, 1, 0))))
        plan = (cuts, (0, 1, 0, 1))
        self.assertFalse(self.assert_all(((0, 9, 19, 2), (1, 2, 6, 2), (0, 3, 7, 2)), (1, 1), plan))
        self.assertTrue(self.assert_all(((0, 9, 19, 2), (1, 2, 6, 2), (0, 4, 7, 2)), (1, 1), plan))
        self.assertTrue(self.assert_all(((0, 9, 19, 2), (1, 2, 6, 2), (0, 3, 7, 1)), (1, 1), plan))
        self.assertTrue(self.assert_all(((0, 9, 19, 1), (1, 2, 6, 2), (0, 3, 7, 2)), (1, 1), plan))
        self.assertTrue(self.assert_all(((0, 9, 19, 2), (1, 2, 6, 1), (0, 3, 7, 2)), (1, 1), plan))
        # Of all steps up to twelve only those that the halves of the cuts allow.
        for step in range(1, 13):
            for at in range(3):
                steps = [step if number == at else 2 for number in range(3)]
                pattern = tuple((kind, low, high, by) for kind, low, high, by in zip(
                    (0, 1, 0), (LONG // 2 + 1, 2, 1), (LONG, LONG, LONG // 4), steps))
                self.assert_fails(pattern, (1, 1), plan, step % 2 == 1)
        for at in range(4):
            great = tuple((number % 2, 12, LONG, 1 if number == at else 12) for number in range(4))
            self.assert_fails(great, (1, 1), share_plan((1, 1), 4), True)
            even_steps = tuple((number % 2, 12, LONG, 6 if number == at else 2) for number in range(4))
            self.assert_fails(even_steps, (1, 1), share_plan((1, 1), 4), False)

    def test_changed_plans_against_all_lengths(self):
        pick = random.Random(5)
        told = [0, 0]
        for _ in range(1500):
            weights, many = pick.choice([((1, 1), 2), ((1, 1), 3), ((1, 2), 2), ((1, 1, 1), 2), ((1, 1), 1)])
            whole = sum(weights)
            pattern = tuple((number % 3, whole, whole * pick.randint(1, 3) + pick.randint(0, 1),
                             whole * pick.randint(1, 2)) for number in range(many))
            plan = share_plan(weights, many)
            if pick.random() < 0.7:
                pattern, plan = changed(pick, pattern, plan)
            told[self.assert_all(pattern, weights, plan)] += 1
        self.assertGreater(min(told), 300)

    def test_any_plans_against_all_lengths(self):
        pick = random.Random(6)
        told = [0, 0]
        for _ in range(3000):
            pattern = tuple((number % 2, low, low + pick.randint(0, 4), pick.randint(1, 4))
                            for number, low in enumerate(pick.choices(range(1, 5), k=pick.randint(1, 3))))
            cuts = tuple(sorted((pick.randrange(len(pattern)), (
                pick.choice((1, 1, 2, 3)), pick.randint(-2, 4),
                tuple(pick.choices((-1, 0, 0, 0, 1), k=len(pattern))))) for _ in range(pick.randint(0, 2))))
            first = pick.randrange(2)
            plan = cuts, tuple((first + at) % 2 for at in range(len(cuts) + 1))
            told[self.assert_all(pattern, pick.choice([(1, 1), (1, 2), (2, 1), (1, 3)]), plan)] += 1
        self.assertGreater(told[0], 5)

    def test_six_items_with_great_bounds_and_any_plans(self):
        pick = random.Random(7)
        for _ in range(60):
            pattern = tuple((number % 3, pick.choice((1, 12, LONG // 2)), LONG, pick.randint(1, 12))
                            for number in range(6))
            numbers = sorted(pick.choices(range(6), k=4))
            cuts = tuple((number, (pick.choice((1, 5, 12)), pick.choice((0, 1, LONG, -LONG)),
                                   tuple(pick.choices((-100, -1, 0, 1, 100), k=6)))) for number in numbers)
            self.assert_fails(pattern, (1, 1), (cuts, (0, 1, 0, 1, 0)), True)
            self.assert_fails(pattern, (1, 2, 1000), (cuts, (0, 1, 2, 1, 0)), True)

    def test_six_items_with_great_bounds_and_a_right_plan(self):
        # Taker 0 has both ends; what is due to all of a kind is cut from its longest run.
        low, small = 3 * (LONG // 6), 3 * (LONG // 24)
        pattern = ((0, 3, small, 3), (1, 6, small, 12), (0, low + 3, LONG, 6), (1, low, LONG, 9),
                   (0, 9, small, 3), (1, 3, small, 12))
        cuts = ((2, (3, 0, (-2, 0, 1, 0, -2, 0))), (2, (3, 0, (-1, 0, 2, 0, -1, 0))),
                (3, (3, 0, (0, 1, 0, 1, 0, 1))), (3, (3, 0, (0, 2, 0, 2, 0, 2))))
        plan = (cuts, (0, 1, 2, 1, 0))
        self.assert_fails(pattern, (1, 1, 1), plan, False)
        for lengths in itertools.product(*[(first, last - (last - first) % step)
                                           for _, first, last, step in pattern]):
            self.assertTrue(brute.plan_is_right(pattern, (1, 1, 1), plan, lengths))
        for at, (kind, first, last, step) in enumerate(pattern):
            for item in ((kind, first, last, 1), (kind, first + 1, last, step), (kind, 3, LONG - 1, 3)):
                wrong = pattern[:at] + (item,) + pattern[at + 1:]
                self.assert_fails(wrong, (1, 1, 1), plan, True)
            # The greatest length alone is one too many for a cut's run.
            if at in (0, 1, 4, 5):
                item = (kind, first, low // 2 + first, 3)
                self.assert_fails(pattern[:at] + (item,) + pattern[at + 1:], (1, 1, 1), plan, True)
        for weights in ((1, 1, 2), (1000, 1000, 999)):
            self.assert_fails(pattern, weights, plan, True)
        self.assert_fails(pattern, (1000, 1000, 1000), plan, False)


def changed(pick, pattern, plan):
    """Return a pattern and a plan of which one number is another one."""
    at = pick.randrange(len(pattern))
    kind, low, high, step = pattern[at]
    what = pick.randrange(4)
    if what == 0:
        item = (kind, low, high, pick.randint(1, 4))
        return pattern[:at] + (item,) + pattern[at + 1:], plan
    if what == 1:
        item = (kind, pick.randint(1, 4), high + 4, step)
        return pattern[:at] + (item,) + pattern[at + 1:], plan
    cuts, takers = plan
    at = pick.randrange(len(cuts))
    number, (bottom, constant, factors) = cuts[at]
    if what == 2:
        formula = (bottom, constant + pick.choice((-1, 1, bottom, -bottom)), factors)
    else:
        other = pick.randrange(len(factors))
        factors = factors[:other] + (factors[other] + pick.choice((-1, 1)),) + factors[other + 1:]
        formula = (bottom, constant, factors)
    return pattern, (cuts[:at] + ((number, formula),) + cuts[at + 1:], takers)


class BruteTest(unittest.TestCase):
    def test_what_the_tests_hold_the_program_against_counts_bead_by_bead(self):
        pick = random.Random(8)
        right = 0
        for _ in range(400):
            pattern, plan = changed(pick, ((0, 2, 6, 2), (1, 2, 6, 2)), share_plan((1, 1), 2))
            lengths = pick.choice(brute.lengths_of(pattern))
            found = brute.plan_is_right(pattern, (1, 1), plan, lengths)
            if not found:
                continue
            right += 1
            string = string_of(pattern, lengths)
            dealing = plan_dealing(pattern, plan, lengths)
            held = brute.held(string, 2, dealing)
            self.assertEqual(held[0], held[1])
            self.assertIn(dealing, brute.dealings(string, 2, len(dealing[0])))
            self.assertEqual(brute.layout(string, dealing)[0], tuple(number for number, _ in plan[0]))
        self.assertGreater(right, 50)


if __name__ == "__main__":
    unittest.main()
