"""[15]: ring dealings."""

import unittest

from beadshares.errors import BadRing, BadTakers
from beadshares.rings import ring_deal, ring_dealt
from beadshares.strings import String
from beadshares.wishes import even, shares
from tests import brute
from tests.samples import GREAT, GREAT_TWO, LONG, NOTHING_RIGHT, SAMPLE, only_tuples, spoilt

WISH = ((3, 3, 0, 0), (3, 3, 0, 0))
ONE = String(((2, 1),))
TWO = String(((2, 2),))
HALF = LONG // 2
NOUGHT = (0, 0, 0, 0)


class RingDealtTest(unittest.TestCase):
    def assert_bad(self, *values, string=SAMPLE):
        for value in values:
            with self.subTest(value=value), self.assertRaises(BadRing):
                ring_dealt(string, value)

    def test_the_document_s_example(self):
        self.assertEqual(ring_dealt(SAMPLE, ((3, 9), 1)), WISH)

    def test_against_going_along_the_ring(self):
        for string in (SAMPLE, *brute.SHORT):
            for cuts in (0, 2, 4):
                for dealing in brute.ring_dealings(string, cuts):
                    found = ring_dealt(string, dealing)
                    self.assertEqual(found, brute.ring_held(string, dealing))
                    self.assertTrue(only_tuples(found))

    def test_no_cut(self):
        for string in (ONE, SAMPLE, GREAT):
            self.assertEqual(ring_dealt(string, ((), 0)), (string.totals, NOUGHT))
            self.assertEqual(ring_dealt(string, ((), 1)), (NOUGHT, string.totals))

    def test_a_cut_at_place_0(self):
        self.assertEqual(ring_dealt(SAMPLE, ((0, 5), 0)), ((4, 1, 0, 0), (2, 5, 0, 0)))
        self.assertEqual(ring_dealt(SAMPLE, ((0, 5), 1)), ((2, 5, 0, 0), (4, 1, 0, 0)))
        self.assertEqual(ring_dealt(SAMPLE, ((0, 1, 2, 11), 0)), ((5, 5, 0, 0), (1, 1, 0, 0)))
        self.assertEqual(ring_dealt(TWO, ((0, 1), 0)), ((0, 0, 1, 0), (0, 0, 1, 0)))

    def test_great_lengths(self):
        cuts = (0, LONG + 1, 5 * LONG, 6 * LONG - 2)
        self.assertEqual(ring_dealt(GREAT, (cuts, 0)),
                         ((LONG, LONG - 1, 0, 0), (LONG, LONG + 1, LONG, LONG)))

    def test_no_pair(self):
        self.assert_bad((), ((),), ((3, 9), 0, 0), [(3, 9), 0], "ab", None, {0: (3, 9), 1: 0})

    def test_cuts_that_are_none(self):
        self.assert_bad(((3,), 0), ((3, 9, 10), 0), ((0, 1, 2, 3, 4), 0), ((0, 1, 2, 3, 4, 5), 0),
                        ((9, 3), 0), ((3, 3), 0), ((-1, 3), 0), ((3, 12), 0), ((3, 13), 0),
                        ((0, 4, 3, 5), 0), ((0, 3, 3, 5), 0), ([3, 9], 0), ((3, True), 0),
                        ((False, 3), 0), ((0, True), 0), ((3, None), 0), ((3, "9"), 0),
                        (None, 0), (0, 0), ("", 0), ([], 0), ({}, 0))
        self.assert_bad(((0, 1), 0), string=ONE)
        self.assert_bad(((0, 1, 2, 3), 0), string=String(((0, 1), (1, 2))))

    def test_a_first_that_is_none(self):
        for first in (2, -1, True, False, None, "0", (0,), [0], 10 ** 60 - 1, SAMPLE):
            self.assert_bad(((3, 9), first), ((), first))

    def test_any_value(self):
        self.assert_bad(*NOTHING_RIGHT, ((3, 9), (0, 1, 0)))
        for value in NOTHING_RIGHT:
            self.assert_bad(((3, 9), value), (value, 2))
            if value != ():
                self.assert_bad((value, 0))
        for value in spoilt(((3, 9), 1)):
            self.assert_bad(value)


class RingDealTest(unittest.TestCase):
    def assert_deal(self, string, wish, cuts):
        """Hold ring_deal against the number of cuts, or None."""
        with self.subTest(runs=string.runs, wish=wish):
            found = ring_deal(string, wish)
            if cuts is None:
                self.assertIsNone(found)
                return
            self.assertTrue(only_tuples(found))
            self.assertEqual(len(found[0]), cuts)
            self.assertEqual(ring_dealt(string, found), wish)

    def test_the_document_s_example(self):
        self.assert_deal(SAMPLE, WISH, 2)

    def test_against_all_ring_dealings(self):
        told = {0: 0, 2: 0, 4: 0, None: 0}
        for string in brute.SHORT:
            fewest = {}
            for cuts in (0, 2, 4):
                for dealing in brute.ring_dealings(string, cuts):
                    fewest.setdefault(brute.ring_held(string, dealing), cuts)
            for wish in brute.wishes(string, 2):
                self.assert_deal(string, wish, fewest.get(wish))
                told[fewest.get(wish)] += 1
        for number in told.values():
            self.assertGreater(number, 1)

    def test_one_taker_has_all(self):
        for string in (ONE, TWO, SAMPLE, GREAT):
            self.assertEqual(ring_deal(string, (string.totals, NOUGHT)), ((), 0))
            self.assertEqual(ring_deal(string, (NOUGHT, string.totals)), ((), 1))

    def test_with_and_without_a_cut_at_place_0(self):
        string = String(((0, LONG), (1, LONG)))
        wish = ((LONG, 0, 0, 0), (0, LONG, 0, 0))
        self.assertEqual(sorted(ring_deal(string, wish)[0]), [0, LONG])
        self.assert_deal(string, wish, 2)
        self.assert_deal(string, wish[::-1], 2)
        wish = ((HALF, HALF, 0, 0), (HALF, HALF, 0, 0))
        self.assertNotIn(0, ring_deal(string, wish)[0])
        self.assert_deal(string, wish, 2)
        three = String(((0, LONG), (1, LONG), (0, LONG), (1, LONG)))
        wish = ((2 * LONG, 0, 0, 0), (0, 2 * LONG, 0, 0))
        self.assertEqual(ring_deal(three, wish)[0], (0, LONG, 2 * LONG, 3 * LONG))
        self.assert_deal(three, wish, 4)
        self.assert_deal(three, wish[::-1], 4)

    def test_none(self):
        self.assert_deal(String(((0, 1), (1, 1)) * 3), ((3, 0, 0, 0), (0, 3, 0, 0)), None)
        self.assert_deal(GREAT_TWO, ((3 * LONG, 0, 0, 0), (0, 3 * LONG, 0, 0)), None)

    def test_great_lengths(self):
        self.assert_deal(GREAT, even(GREAT, 2), 4)
        self.assert_deal(GREAT_TWO, even(GREAT_TWO, 2), 2)
        self.assert_deal(GREAT_TWO, shares(GREAT_TWO, (1, 5)), 2)
        self.assert_deal(GREAT, ((1, 0, 0, 0), (2 * LONG - 1, 2 * LONG, LONG, LONG)), 2)

    def test_three_takers(self):
        for wish in ((*WISH, NOUGHT), (SAMPLE.totals, NOUGHT, NOUGHT), even(SAMPLE, 3)):
            with self.assertRaises(BadTakers) as caught:
                ring_deal(SAMPLE, wish)
            self.assertEqual(caught.exception.many, 3)


if __name__ == "__main__":
    unittest.main()
