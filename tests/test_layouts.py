import itertools
import unittest

from beadshares.dealings import is_right
from beadshares.layouts import (
    amounts, can, first_dealing, is_layout, layout_of, layouts, ranges)
from beadshares.strings import String
from tests import brute
from tests.samples import GREAT, GREAT_TWO, LONG, NOTHING_RIGHT, SAMPLE, only_tuples, spoilt

WISH = ((3, 3, 0, 0), (3, 3, 0, 0))
ONE = String(((2, 1),))
THREE_RUNS = String(((0, 4), (1, 2), (0, 4)))
TABLES = [brute.Table(string, many) for string in brute.SHORT for many in (2, 3)]
SMALL = [table for table in TABLES if table.string.length <= 6]


def some_wishes(table):
    """Return some wishes, and some that dealings with many cuts meet."""
    found = brute.wishes(table.string, table.many)
    met = sorted({held for rows in table.by_layout[-1].values() for _, held in rows})
    return found[::1 + len(found) // 6] + met[::1 + len(met) // 6]


class LayoutOfTest(unittest.TestCase):
    def test_the_document_s_dealing(self):
        self.assertEqual(layout_of(SAMPLE, ((3, 9), (0, 1, 0))), ((0, 3), (0, 1, 0)))

    def test_a_cut_at_a_run_s_end_lies_in_this_run(self):
        self.assertEqual(layout_of(SAMPLE, ((4, 6, 8), (0, 1, 0, 1))), ((0, 1, 2), (0, 1, 0, 1)))
        self.assertEqual(layout_of(SAMPLE, ((5, 7, 9), (0, 1, 0, 1))), ((1, 2, 3), (0, 1, 0, 1)))
        self.assertEqual(layout_of(SAMPLE, ((1, 11), (1, 0, 2))), ((0, 3), (1, 0, 2)))

    def test_no_cut(self):
        self.assertEqual(layout_of(SAMPLE, ((), (1,))), ((), (1,)))
        self.assertEqual(layout_of(ONE, ((), (2,))), ((), (2,)))

    def test_bead_by_bead(self):
        for table in TABLES:
            for cuts in range(3):
                for dealing in brute.dealings(table.string, table.many, cuts):
                    found = layout_of(table.string, dealing)
                    self.assertEqual(found, brute.layout(table.string, dealing))
                    self.assertTrue(only_tuples(found))

    def test_great_places(self):
        dealing = ((LONG, LONG + 1, 5 * LONG, 6 * LONG - 1), (0, 1, 2, 0, 2))
        self.assertEqual(layout_of(GREAT, dealing), ((0, 1, 4, 5), (0, 1, 2, 0, 2)))


class LayoutsTest(unittest.TestCase):
    def test_the_document_s_number(self):
        self.assertEqual(len(layouts(SAMPLE, 2, 1)), 8)

    def test_no_cut(self):
        self.assertEqual(layouts(SAMPLE, 2, 0), (((), (0,)), ((), (1,))))
        self.assertEqual(layouts(ONE, 3, 0), (((), (0,)), ((), (1,)), ((), (2,))))

    def test_all_of_short_strings_ascending(self):
        for table in TABLES:
            for cuts in range(5):
                found = layouts(table.string, table.many, cuts)
                self.assertEqual(found, table.layouts(cuts))
                self.assertTrue(only_tuples(found))

    def test_a_run_has_at_most_as_many_cuts_as_beads_and_the_last_one_fewer(self):
        self.assertEqual(layouts(ONE, 2, 1), ())
        self.assertEqual(layouts(String(((0, 2),)), 2, 1), (((0,), (0, 1)), ((0,), (1, 0))))
        self.assertEqual(layouts(String(((0, 2),)), 2, 2), ())
        two = String(((0, 2), (1, 2)))
        self.assertEqual(sorted({places for places, _ in layouts(two, 2, 3)}), [(0, 0, 1)])
        self.assertEqual(layouts(two, 3, 4), ())

    def test_six_great_runs(self):
        for many, rows in ((2, 2), (3, 48)):
            found = layouts(GREAT, many, 4)
            self.assertEqual(len(found), 126 * rows)
            self.assertEqual(list(found), sorted(set(found)))
            self.assertTrue(all(is_layout(GREAT, many, value) for value in found))

    def test_no_dealing_has_more_than_four_cuts(self):
        self.assertEqual(layouts(SAMPLE, 2, 5), ())


class IsLayoutTest(unittest.TestCase):
    def assert_layouts(self, expected, many, *values):
        for value in values:
            with self.subTest(value=value, many=many):
                self.assertIs(is_layout(SAMPLE, many, value), expected)

    def test_layouts(self):
        self.assert_layouts(True, 2, ((0, 3), (0, 1, 0)), ((), (1,)), ((0, 0, 0, 0), (1, 0, 1, 0, 1)),
                            ((1, 1), (0, 1, 0)), ((3, 3, 3), (0, 1, 0, 1)))
        self.assert_layouts(True, 3, ((0, 3), (0, 1, 2)), ((), (2,)), ((0, 3), (0, 1, 0)))

    def test_places(self):
        takers = (0, 1, 0)
        self.assert_layouts(False, 2, ((3, 0), takers), ((0, 4), takers), ((-1, 0), takers),
                            ([0, 3], takers), ((0, True), takers), ((False, 3), takers),
                            (("0", 3), takers), ((0, None), takers), ((0,), takers), (None, takers))

    def test_runs_with_too_many_cuts(self):
        self.assert_layouts(False, 2, ((1, 1, 1), (0, 1, 0, 1)), ((3, 3, 3, 3), (0, 1, 0, 1, 0)),
                            ((0, 0, 0, 0, 0), (0, 1, 0, 1, 0, 1)))

    def test_takers(self):
        self.assert_layouts(False, 2, ((0, 3), (0, 1, 2)), ((0, 3), (0, 1)), ((0, 3), (0, 0, 1)),
                            ((0, 3), (0, 1, 0, 1)), ((0, 3), [0, 1, 0]), ((0, 3), (0, True, 0)),
                            ((0, 3), (False, 1, 0)), ((0, 3), (0, -1, 0)), ((0, 3), None))
        self.assert_layouts(False, 3, ((0, 3), (0, 1, 3)), ((), ()))

    def test_no_pair(self):
        self.assert_layouts(False, 2, [(0, 3), (0, 1, 0)], ((0, 3),), ((0, 3), (0, 1, 0), ()), ())

    def test_more_than_four_cuts(self):
        self.assertIs(is_layout(GREAT, 2, ((0, 0, 0, 0), (0, 1, 0, 1, 0))), True)
        self.assertIs(is_layout(GREAT, 2, ((0, 0, 0, 0, 0), (0, 1, 0, 1, 0, 1))), False)

    def test_any_value(self):
        self.assert_layouts(False, 2, *NOTHING_RIGHT, *spoilt(((0, 3), (0, 1, 0))))
        for value in NOTHING_RIGHT:
            self.assert_layouts(False, 3, ((0,), value))
            self.assert_layouts(value == (), 3, (value, (0,)))

    def test_all_there_are(self):
        for table in TABLES:
            if table.many > 2:
                continue
            numbers = range(len(table.string) + 1)
            for cuts in range(4):
                for places in itertools.product(numbers, repeat=cuts):
                    for takers in itertools.product((0, 1), repeat=cuts + 1):
                        value = (places, takers)
                        expected = value in table.by_layout[cuts]
                        self.assertIs(is_layout(table.string, 2, value), expected)


class AmountsTest(unittest.TestCase):
    def test_the_document_s_pair(self):
        self.assertEqual(amounts(SAMPLE, ((0, 3), (0, 1, 0)), 0, (0,)), (1, 4))

    def test_no_taker_and_all(self):
        for many in (2, 3):
            for layout in layouts(SAMPLE, many, 2):
                self.assertEqual(amounts(SAMPLE, layout, 0, ()), (0, 0))
                self.assertEqual(amounts(SAMPLE, layout, 1, tuple(range(many))), (6, 6))

    def test_a_kind_that_does_not_occur(self):
        self.assertEqual(amounts(SAMPLE, ((0, 3), (0, 1, 0)), 2, (0,)), (0, 0))

    def test_the_last_run_keeps_a_bead_behind_the_last_cut(self):
        self.assertEqual(amounts(SAMPLE, ((3,), (0, 1)), 1, (0,)), (3, 5))
        self.assertEqual(amounts(SAMPLE, ((2,), (0, 1)), 0, (0,)), (5, 6))

    def test_a_run_with_as_many_cuts_as_beads(self):
        layout = ((1, 1), (0, 1, 0))
        self.assertEqual(amounts(SAMPLE, layout, 1, (1,)), (1, 1))
        self.assertEqual(amounts(SAMPLE, layout, 1, (0,)), (5, 5))

    def test_against_all_dealings(self):
        for table in TABLES:
            everyone = tuple(range(table.many))
            for cuts in range(5):
                for layout in table.layouts(cuts):
                    for kind in range(4):
                        for some in [(), *brute.groups(table.many), everyone]:
                            found = amounts(table.string, layout, kind, some)
                            self.assertEqual(found, table.amounts(layout, kind, some))

    def test_great_lengths(self):
        layout = ((0, 0, 4, 5), (0, 1, 0, 2, 1))
        self.assertEqual(amounts(GREAT, layout, 0, (0,)), (2, 2 * LONG - 1))
        self.assertEqual(amounts(GREAT, layout, 0, (1,)), (1, LONG - 1))
        self.assertEqual(amounts(GREAT, layout, 0, (2,)), (0, LONG - 1))
        self.assertEqual(amounts(GREAT, layout, 0, (1, 2)), (1, 2 * LONG - 2))
        self.assertEqual(amounts(GREAT, layout, 1, (0, 1)), (LONG + 1, 2 * LONG - 1))
        self.assertEqual(amounts(GREAT, layout, 3, (0,)), (LONG, LONG))


class DealingsOfALayoutTest(unittest.TestCase):
    def assert_told(self, string, wish, layout, right):
        """Hold can, first_dealing and ranges against the cuts of all right dealings."""
        with self.subTest(runs=string.runs, wish=wish, layout=layout):
            self.assertIs(can(string, wish, layout), bool(right))
            if not right:
                self.assertIsNone(first_dealing(string, wish, layout))
                self.assertIsNone(ranges(string, wish, layout))
                return
            self.assertEqual(first_dealing(string, wish, layout), (right[0], layout[1]))
            found = ranges(string, wish, layout)
            self.assertTrue(only_tuples(found))
            self.assertEqual(len(found), len(layout[0]))
            for (least, greatest), places in zip(found, zip(*right)):
                self.assertEqual(list(range(least, greatest + 1)), sorted(set(places)))

    def test_the_document_s_examples(self):
        self.assertEqual(first_dealing(SAMPLE, WISH, ((0, 3), (0, 1, 0))), ((3, 9), (0, 1, 0)))
        self.assertIsNone(ranges(SAMPLE, WISH, ((0, 2), (0, 1, 0))))
        self.assertIs(can(SAMPLE, WISH, ((0, 2), (0, 1, 0))), False)
        layout = ((0, 1, 2), (0, 1, 0, 1))
        wish = ((4, 1, 0, 0), (4, 1, 0, 0))
        self.assertEqual(ranges(THREE_RUNS, wish, layout), ((1, 3), (5, 5), (7, 9)))
        self.assertEqual(first_dealing(THREE_RUNS, wish, layout), ((1, 5, 9), (0, 1, 0, 1)))

    def test_no_cut(self):
        wish = ((0, 0, 0, 0), (6, 6, 0, 0))
        self.assertEqual(ranges(SAMPLE, wish, ((), (1,))), ())
        self.assertEqual(first_dealing(SAMPLE, wish, ((), (1,))), ((), (1,)))
        self.assertIs(can(SAMPLE, wish, ((), (1,))), True)
        self.assertIs(can(SAMPLE, wish, ((), (0,))), False)
        self.assertIsNone(ranges(SAMPLE, wish, ((), (0,))))
        self.assertIsNone(first_dealing(SAMPLE, wish, ((), (0,))))

    def test_against_all_dealings_and_some_wishes(self):
        for table in TABLES:
            most = 5 if table.many == 2 else 4
            for wish in some_wishes(table):
                for cuts in range(most):
                    for layout in table.layouts(cuts):
                        self.assert_told(table.string, wish, layout, table.right(wish, layout))

    def test_against_all_dealings_and_all_wishes(self):
        for table in SMALL:
            for wish in brute.wishes(table.string, table.many):
                for cuts in range(3):
                    for layout in table.layouts(cuts):
                        self.assert_told(table.string, wish, layout, table.right(wish, layout))

    def test_four_cuts_in_one_run(self):
        string = String(((0, 7), (1, 3)))
        for many in (2, 3):
            table = brute.Table(string, many)
            for takers in brute.taker_rows(many, 4):
                for places in ((0, 0, 0, 0), (0, 0, 0, 1), (0, 0, 1, 1)):
                    for wish in some_wishes(table):
                        layout = (places, takers)
                        self.assert_told(string, wish, layout, table.right(wish, layout))

    def test_a_bound_that_only_two_takers_together_break(self):
        # With three takers it is not enough that each one alone can have what it wishes.
        string = String(((0, 3), (1, 3), (0, 3)))
        table = brute.Table(string, 3, 3)
        held = {layout: [row for _, row in rows] for layout, rows in table.by_layout[3].items()}
        for wish in brute.wishes(string, 3):
            for layout in table.layouts(3):
                self.assertIs(can(string, wish, layout), wish in held[layout])


class GreatLengthsTest(unittest.TestCase):
    def test_the_document_s_string_with_great_runs(self):
        string = String(((0, LONG), (1, 2), (0, LONG)))
        wish = ((LONG, 1, 0, 0), (LONG, 1, 0, 0))
        layout = ((0, 1, 2), (0, 1, 0, 1))
        self.assertEqual(ranges(string, wish, layout), (
            (1, LONG - 1), (LONG + 1, LONG + 1), (LONG + 3, 2 * LONG + 1)))
        self.assertEqual(first_dealing(string, wish, layout),
                         ((1, LONG + 1, 2 * LONG + 1), (0, 1, 0, 1)))

    def test_one_bead_decides(self):
        string = String(((0, LONG), (1, LONG)))
        layout = ((0, 1), (0, 1, 0))
        for number in (0, LONG):
            wish = ((number, 1, 0, 0), (LONG - number, LONG - 1, 0, 0))
            self.assertIs(can(string, wish, layout), number > 0)
        wish = ((LONG, 1, 0, 0), (0, LONG - 1, 0, 0))
        self.assertEqual(first_dealing(string, wish, layout), ((LONG, 2 * LONG - 1), (0, 1, 0)))
        wish = ((LONG, 0, 0, 0), (0, LONG, 0, 0))
        self.assertIs(can(string, wish, layout), False)

    def test_each_layout_of_six_runs_with_four_cuts(self):
        half = LONG // 2
        cases = [
            (GREAT, ((half, half, half, half), (half, half, half, 0), (LONG, LONG, 0, half))),
            (GREAT, ((LONG, LONG, half, half), (LONG, LONG, half, half))),
            (GREAT, ((LONG, LONG, LONG, 1), (LONG, LONG, 0, LONG - 1))),
            (GREAT_TWO, ((LONG, LONG, 0, 0),) * 3),
            (GREAT_TWO, ((3 * half, 3 * half, 0, 0),) * 2),
            (GREAT_TWO, ((1, 1, 0, 0), (3 * LONG - 1, 3 * LONG - 1, 0, 0))),
        ]
        for string, wish in cases:
            told = 0
            for layout in layouts(string, len(wish), 4):
                if not can(string, wish, layout):
                    self.assertIsNone(first_dealing(string, wish, layout))
                    self.assertIsNone(ranges(string, wish, layout))
                    continue
                told += 1
                self.assert_edges(string, wish, layout)
            self.assertGreater(told, 0)

    def assert_edges(self, string, wish, layout):
        dealing = first_dealing(string, wish, layout)
        self.assertIs(is_right(string, wish, dealing), True)
        self.assertEqual(layout_of(string, dealing), layout)
        found = ranges(string, wish, layout)
        self.assertEqual(dealing[0][0], found[0][0])
        for cut, (least, greatest) in zip(dealing[0], found):
            self.assertTrue(least <= cut <= greatest)

    def test_ranges_grow_with_the_lengths(self):
        # An end of a range is a sum of lengths and of numbers of cuts. Where all runs have
        # ten beads or more, which sum it is does not change with the lengths, so two of
        # them tell a third.
        def scaled(times):
            string = String(tuple((kind, 10 * times) for kind in (0, 1, 0, 1)))
            return string, ((10 * times, 10 * times, 0, 0),) * 2
        for cuts in (2, 3, 4):
            for layout in layouts(scaled(1)[0], 2, cuts):
                first, second, great = [ranges(*scaled(times), layout)
                                        for times in (1, 2, LONG // 10)]
                with self.subTest(layout=layout):
                    self.assertEqual(first is None, great is None)
                    if first is None:
                        continue
                    for pair, twice, far in zip(first, second, great):
                        for a, b, c in zip(pair, twice, far):
                            self.assertEqual(a + (b - a) * (LONG // 10 - 1), c)


if __name__ == "__main__":
    unittest.main()
