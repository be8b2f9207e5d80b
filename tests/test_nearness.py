"""[13] and [14], and [2] (d) of windows."""

import itertools
import unittest

from beadshares.dealings import dealing_error
from beadshares.errors import BadTakers, NoDealing, Odd
from beadshares.nearness import nearest, windows
from beadshares.strings import String
from beadshares.wishes import even
from tests import brute
from tests.samples import GREAT, GREAT_TWO, LONG, SAMPLE, only_tuples

WISH = ((3, 3, 0, 0), (3, 3, 0, 0))
ONE = String(((2, 1),))
HALF = LONG // 2


def miss(string, wish, dealing):
    """Return the miss of a dealing of a string that may be long."""
    cuts, takers = dealing
    ends = (0, *cuts, string.length)
    has = [0] * 4
    for first, last, taker in zip(ends, ends[1:], takers):
        if taker == 0:
            has = [a + b for a, b in zip(has, string.counts(first, last))]
    return sum(abs(a - b) for a, b in zip(has, wish[0]))


class NearestTest(unittest.TestCase):
    def assert_nearest(self, string, wish, cuts, expected):
        found = nearest(string, wish, cuts)
        self.assertTrue(only_tuples(found))
        self.assertIsInstance(found, tuple)
        least, dealing = found
        self.assertEqual(least, expected)
        self.assertIsNone(dealing_error(string, 2, dealing))
        self.assertEqual(len(dealing[0]), cuts)
        self.assertEqual(miss(string, wish, dealing), expected)

    def assert_no_dealing(self, string, wish, cuts):
        with self.assertRaises(NoDealing) as caught:
            nearest(string, wish, cuts)
        self.assertEqual(caught.exception.cuts, cuts)

    def test_the_document_s_examples(self):
        self.assertEqual((nearest(SAMPLE, WISH, 1)[0], nearest(SAMPLE, WISH, 2)[0]), (2, 0))
        for cuts, expected in enumerate((6, 2, 0, 0, 0)):
            self.assert_nearest(SAMPLE, WISH, cuts, expected)

    def test_against_all_dealings(self):
        for string in brute.SHORT:
            for cuts in range(5):
                rows = {brute.held(string, 2, dealing)[0] for dealing in brute.dealings(string, 2, cuts)}
                for wish in brute.wishes(string, 2):
                    if not rows:
                        self.assert_no_dealing(string, wish, cuts)
                        continue
                    expected = min(sum(abs(a - b) for a, b in zip(row, wish[0])) for row in rows)
                    self.assert_nearest(string, wish, cuts, expected)

    def test_the_miss_is_counted_bead_by_bead(self):
        for string in brute.SHORT[:10]:
            for wish in brute.wishes(string, 2):
                for cuts in range(min(3, string.length)):
                    least, dealing = nearest(string, wish, cuts)
                    self.assertEqual(brute.miss(string, wish, dealing), least)

    def test_no_cut(self):
        for string in (ONE, SAMPLE, GREAT):
            nought = (0, 0, 0, 0)
            self.assertEqual(nearest(string, (string.totals, nought), 0), (0, ((), (0,))))
            self.assertEqual(nearest(string, (nought, string.totals), 0), (0, ((), (1,))))
        self.assertEqual(nearest(SAMPLE, ((6, 5, 0, 0), (0, 1, 0, 0)), 0), (1, ((), (0,))))

    def test_taker_0_counts_alone(self):
        string = String(((0, 3), (1, 5)))
        self.assertEqual(nearest(string, ((3, 2, 0, 0), (0, 3, 0, 0)), 0)[0], 3)
        self.assertEqual(nearest(string, ((0, 2, 0, 0), (3, 3, 0, 0)), 0)[0], 2)

    def test_no_dealing_has_so_many_cuts(self):
        for cuts in range(1, 5):
            self.assert_no_dealing(ONE, ((0, 0, 1, 0), (0, 0, 0, 0)), cuts)
        four = String(((0, 2), (1, 2)))
        self.assert_no_dealing(four, ((1, 1, 0, 0),) * 2, 4)
        self.assert_nearest(four, ((1, 1, 0, 0),) * 2, 3, 0)
        self.assert_no_dealing(SAMPLE, WISH, 5)

    def test_three_takers(self):
        three = (*WISH, (0, 0, 0, 0))
        one = ((0, 0, 1, 0), (0, 0, 0, 0), (0, 0, 0, 0))
        for string, wish, cuts in ((SAMPLE, three, 2), (SAMPLE, three, 0), (ONE, one, 3)):
            with self.assertRaises(BadTakers) as caught:
                nearest(string, wish, cuts)
            self.assertEqual(caught.exception.many, 3)

    def test_great_lengths(self):
        for cuts, expected in enumerate((3 * LONG, HALF, 0, 0, 0)):
            self.assert_nearest(GREAT_TWO, even(GREAT_TWO, 2), cuts, expected)
        for cuts, expected in enumerate((3 * LONG, HALF, HALF + 1, 0, 0)):
            self.assert_nearest(GREAT, even(GREAT, 2), cuts, expected)

    def test_runs_of_four_beads_as_great_ones(self):
        string = String(tuple((kind, 4) for kind, _ in GREAT.runs))
        for cuts, expected in enumerate((12, 2, 3, 0)):
            wish = even(string, 2)
            least = min(brute.miss(string, wish, dealing)
                        for dealing in brute.dealings(string, 2, cuts))
            self.assertEqual(least, expected)
            self.assert_nearest(string, wish, cuts, expected)

    def test_one_bead_decides(self):
        string = String(((0, LONG), (1, LONG)))
        wish = ((LONG - 1, 1, 0, 0), (1, LONG - 1, 0, 0))
        for cuts, expected in enumerate((LONG, 1, 0, 1, 0)):
            if cuts != 3:
                self.assert_nearest(string, wish, cuts, expected)
        self.assert_nearest(string, ((LONG, 0, 0, 0), (0, LONG, 0, 0)), 2, 1)
        self.assert_nearest(string, ((LONG, 0, 0, 0), (0, LONG, 0, 0)), 4, 2)

    def test_great_lengths_as_short_ones(self):
        # Where runs have more beads than cuts can take from them, a least miss is a sum of
        # multiples of a length and of numbers of cuts, so two lengths tell a third.
        for wished in ((10, 10, 20, 0), (0, 15, 5, 10), (20, 20, 0, 0), (1, 0, 0, 0)):
            for cuts in range(5):
                least = []
                for times in (10, 20, LONG // 10):
                    string = String(tuple((kind, 10 * times) for kind in (0, 1, 2, 3, 1, 2)))
                    row = tuple(times * number for number in wished)
                    rest = tuple(a - b for a, b in zip(string.totals, row))
                    least.append(nearest(string, (row, rest), cuts)[0])
                    self.assert_nearest(string, (row, rest), cuts, least[-1])
                first, second, far = least
                self.assertEqual(first + (second - first) // 10 * (LONG // 10 - 10), far)
                self.assertEqual((second - first) % 10, 0)


def pairs(places):
    """Return ascending places as pairs of the first and the last one of each row."""
    found = []
    for place in places:
        if found and place == found[-1][1] + 1:
            found[-1] = (found[-1][0], place)
        else:
            found.append((place, place))
    return tuple(found)


def short_strings():
    for kinds in ((0,), (3,), (0, 1), (0, 1, 0), (2, 0, 2, 0), (0, 1, 2), (0, 1, 2, 1), (0, 1, 0, 1, 0),
                  (0, 1, 2, 0, 1), (0, 1, 0, 1, 0, 1), (0, 1, 2, 0, 1, 2), (0, 1, 2, 3, 0, 1),
                  (0, 1, 0, 2, 0, 1)):
        for lengths in itertools.product((1, 2, 3, 4), repeat=len(kinds)):
            yield String(tuple(zip(kinds, lengths)))


class WindowsTest(unittest.TestCase):
    def assert_odd(self, kind, string):
        with self.assertRaises(Odd) as caught:
            windows(string)
        self.assertEqual(caught.exception.kind, kind)

    def test_the_document_s_example(self):
        self.assertEqual(windows(SAMPLE), ((3, 3),))

    def test_against_all_places(self):
        told = 0
        for string in short_strings():
            odd = [kind for kind in range(4) if string.totals[kind] % 2]
            if odd:
                if told % 7 == 0:
                    self.assert_odd(odd[0], string)
                continue
            found = windows(string)
            with self.subTest(runs=string.runs):
                self.assertEqual(found, pairs(brute.windows(string)))
                self.assertTrue(only_tuples(found))
            told += 1
        self.assertGreater(told, 1000)

    def test_one_run(self):
        self.assertEqual(windows(String(((1, 2),))), ((0, 1),))
        self.assertEqual(windows(String(((3, 10),))), ((0, 5),))
        self.assertEqual(windows(String(((0, LONG),))), ((0, HALF),))

    def test_a_window_at_place_0(self):
        string = String(((0, 1), (1, 2), (0, 1)))
        self.assertEqual(windows(string), ((0, 0), (2, 2)))
        self.assertEqual(windows(String(((0, 1), (1, 1), (2, 1), (0, 1), (1, 1), (2, 1)))), ((0, 3),))

    def test_rows_that_would_touch(self):
        # From place to place the ends of the window pass the ends of runs.
        self.assertEqual(windows(String(((0, 1), (1, 1), (0, 1), (1, 1)))), ((0, 2),))
        self.assertEqual(windows(String(((0, 2), (1, 2), (0, 2), (1, 2)))), ((0, 4),))
        string = String(((0, LONG), (1, LONG), (0, LONG), (1, LONG)))
        self.assertEqual(windows(string), ((0, 2 * LONG),))

    def test_no_window(self):
        for runs in (((0, 2), (1, 2), (2, 2)), ((0, 2), (1, 2), (2, 2), (3, 2))):
            self.assertEqual(windows(String(runs)), ())
        self.assertEqual(windows(GREAT), ())

    def test_great_lengths(self):
        places = (HALF, LONG + HALF, 2 * LONG + HALF)
        self.assertEqual(windows(GREAT_TWO), tuple((place, place) for place in places))
        string = String(((0, LONG), (1, 2), (0, 2), (1, LONG)))
        self.assertEqual(windows(string), ((HALF + 1, HALF + 1),))

    def test_lengths_that_are_great_multiples(self):
        for lengths in ((2, 1, 3, 2, 1, 1), (1, 1, 1, 1, 2, 2), (4, 2, 1, 3, 3, 1), (1, 2, 3, 1, 2, 3)):
            for kinds in ((0, 1, 0, 1, 0, 1), (0, 1, 2, 0, 1, 2)):
                short = String(tuple(zip(kinds, [2 * length for length in lengths])))
                times = LONG // 10
                string = String(tuple((kind, length * times) for kind, length in short.runs))
                found = windows(string)
                for first, last in found:
                    for place in (first, last, (first + last) // 2):
                        self.assert_window(string, place)
                    self.assert_window(string, first - 1, False)
                    self.assert_window(string, last + 1, False)
                self.assertEqual([pair for pair in pairs(brute.windows(short))],
                                 [(first // times, last // times) for first, last in found])

    def assert_window(self, string, place, expected=True):
        span = string.length // 2
        if not 0 <= place <= span:
            self.assertFalse(expected)
            return
        counts = string.counts(place, place + span)
        self.assertIs([2 * number for number in counts] == list(string.totals), expected)

    def test_odd_totals(self):
        self.assert_odd(2, ONE)
        self.assert_odd(0, String(((0, 1), (1, 1))))
        self.assert_odd(1, String(((3, 1), (0, 2), (1, 3))))
        self.assert_odd(3, String(((0, 2), (3, LONG - 1), (1, 2))))
        self.assert_odd(1, String(((1, LONG), (0, 2), (1, LONG - 1))))

    def test_two_kinds_have_a_window(self):
        told = 0
        for string in short_strings():
            if len(string.kinds) == 2 and not any(total % 2 for total in string.totals):
                self.assertNotEqual(windows(string), ())
                told += 1
        self.assertGreater(told, 1000)
        for lengths in itertools.product((1, LONG - 1, LONG // 3), repeat=6):
            string = String(tuple(zip((2, 1) * 3, lengths)))
            if not any(total % 2 for total in string.totals):
                self.assertNotEqual(windows(string), ())


if __name__ == "__main__":
    unittest.main()
