import unittest

from beadshares.dealings import dealing_error, dealt, is_right
from beadshares.strings import String
from tests import brute
from tests.samples import GREAT, LONG, NOTHING_RIGHT, SAMPLE, only_tuples, spoilt

WISH = ((3, 3, 0, 0), (3, 3, 0, 0))
DEALING = ((3, 9), (0, 1, 0))


class DealingErrorTest(unittest.TestCase):
    def assert_word(self, word, value, many=2, string=SAMPLE):
        with self.subTest(value=value, many=many):
            self.assertEqual(dealing_error(string, many, value), word)

    def test_dealings(self):
        for value in (DEALING, ((), (0,)), ((), (1,)), ((1,), (1, 0)), ((11,), (0, 1)),
                      ((1, 2, 10, 11), (0, 1, 0, 1, 0))):
            self.assert_word(None, value, 2)
            self.assert_word(None, value, 3)
        self.assert_word(None, ((1, 2, 3, 4), (2, 1, 2, 0, 1)), 3)
        self.assert_word(None, ((), (2,)), 3)

    def test_all_dealings_of_short_strings(self):
        for string in brute.SHORT:
            for many in (2, 3):
                for cuts in range(4):
                    for value in brute.dealings(string, many, cuts):
                        self.assertIsNone(dealing_error(string, many, value))

    def test_no_pair(self):
        for value in ((), ((3, 9),), (*DEALING, 2), list(DEALING), {0: (3, 9)}, ((3, 9), (0, 1, 0), ())):
            self.assert_word("dealing", value)

    def test_cuts(self):
        for cuts in ([3, 9], (9, 3), (3, 3), (0, 9), (-1, 9), (3, 12), (3, 13), (3, True), (True, 3),
                     ("3", 9), (3, None), 3, None, (3, (9,)), (LONG, 10 ** 59)):
            self.assert_word("cuts", (cuts, (0, 1, 0)))
        self.assert_word("cuts", ((1, 2, 3, 4, 5), (0, 1, 0, 1, 0, 1)))

    def test_takers(self):
        for takers in ([0, 1, 0], (0, 1), (0, 1, 0, 1), (0, 0, 1), (0, 1, 1), (0, 2, 0), (-1, 0, 1),
                       (0, True, 0), (False, 1, 0), (0, "1", 0), (None,) * 3, 0, None, ()):
            self.assert_word("takers", ((3, 9), takers))
        self.assert_word("takers", ((3, 9), (0, 3, 0)), 3)
        self.assert_word("takers", ((), ()))
        self.assert_word("takers", ((), (2,)), 2)

    def test_the_first_word_that_applies(self):
        self.assert_word("dealing", ([9, 3], [0], None))
        self.assert_word("cuts", ((9, 3), None))
        self.assert_word("cuts", (None, None))

    def test_one_bead_has_no_cut(self):
        one = String(((2, 1),))
        self.assert_word(None, ((), (1,)), 2, one)
        for cuts in ((0,), (1,), (2,)):
            self.assert_word("cuts", (cuts, (0, 1)), 2, one)

    def test_great_places(self):
        self.assert_word(None, ((1, LONG, 6 * LONG - 2, 6 * LONG - 1), (0, 1, 2, 0, 1)), 3, GREAT)
        self.assert_word("cuts", ((1, LONG, 6 * LONG - 1, 6 * LONG), (0, 1, 2, 0, 1)), 3, GREAT)

    def test_any_value(self):
        for value in NOTHING_RIGHT:
            expected = "cuts" if value == (None, None) else "dealing"
            self.assert_word(expected, value)
            if value != ():
                self.assert_word("cuts", (value, (0, 1)))
            self.assert_word("takers", ((3,), value))
        for many in (2, 3):
            for value in spoilt(DEALING):
                with self.subTest(value=value):
                    self.assertIn(dealing_error(SAMPLE, many, value), ("dealing", "cuts", "takers"))


class DealtTest(unittest.TestCase):
    def test_the_document_s_dealing(self):
        self.assertEqual(dealt(SAMPLE, 2, DEALING), WISH)
        self.assertEqual(dealt(SAMPLE, 2, ((3, 8), (0, 1, 0))), ((3, 4, 0, 0), (3, 2, 0, 0)))

    def test_takers_without_a_piece(self):
        nought = (0, 0, 0, 0)
        self.assertEqual(dealt(SAMPLE, 2, ((), (1,))), (nought, (6, 6, 0, 0)))
        self.assertEqual(dealt(SAMPLE, 3, ((), (0,))), ((6, 6, 0, 0), nought, nought))
        self.assertEqual(dealt(SAMPLE, 3, DEALING), (*WISH, nought))

    def test_as_the_beads_tell_one_by_one(self):
        for string in brute.SHORT:
            for many in (2, 3):
                for cuts in range(4):
                    for value in brute.dealings(string, many, cuts):
                        told = dealt(string, many, value)
                        self.assertEqual(told, brute.held(string, many, value))
                        self.assertTrue(only_tuples(told))

    def test_great_lengths(self):
        dealing = ((LONG // 2, LONG + 1, 4 * LONG - 7, 6 * LONG - 1), (0, 2, 1, 2, 0))
        self.assertEqual(dealt(GREAT, 3, dealing), (
            (LONG // 2, 1, 0, 0), (0, LONG - 1, LONG, LONG - 7), (3 * LONG // 2, LONG, 0, 7)))


class IsRightTest(unittest.TestCase):
    def test_right(self):
        self.assertIs(is_right(SAMPLE, WISH, ((3, 9), (1, 0, 1))), True)
        self.assertIs(is_right(SAMPLE, WISH, DEALING), True)
        self.assertIs(is_right(SAMPLE, ((0, 0, 0, 0), (6, 6, 0, 0)), ((), (1,))), True)

    def test_a_dealing_that_is_not_right(self):
        for value in (((3, 8), (0, 1, 0)), ((), (0,)), ((6,), (0, 1)), ((2, 9), (0, 1, 0))):
            self.assertIs(is_right(SAMPLE, WISH, value), False)

    def test_as_many_takers_as_the_wish_has(self):
        three = ((6, 0, 0, 0), (0, 2, 0, 0), (0, 4, 0, 0))
        self.assertIs(is_right(SAMPLE, three, ((4, 6, 8), (0, 1, 0, 2))), True)
        self.assertIs(is_right(SAMPLE, three, ((4, 6, 8), (0, 2, 0, 1))), False)
        self.assertIs(is_right(SAMPLE, WISH, ((4, 6, 8), (0, 1, 0, 2))), False)
        unused = (*WISH, (0, 0, 0, 0))
        self.assertIs(is_right(SAMPLE, unused, DEALING), True)
        self.assertIs(is_right(SAMPLE, (WISH[0], (0, 0, 0, 0), WISH[1]), ((3, 9), (0, 2, 0))), True)
        self.assertIs(is_right(SAMPLE, WISH, ((3, 9), (0, 2, 0))), False)

    def test_any_value(self):
        for value in [*NOTHING_RIGHT, *spoilt(DEALING), *spoilt(((3, 9), (1, 0, 1))), WISH]:
            with self.subTest(value=value):
                self.assertIs(is_right(SAMPLE, WISH, value), False)

    def test_cuts_out_of_order_or_at_the_ends_that_would_give_the_wish(self):
        string = String(((0, 1), (1, 1)))
        wish = ((1, 0, 0, 0), (0, 1, 0, 0))
        self.assertIs(is_right(string, wish, ((1,), (0, 1))), True)
        for value in (((1, 1), (0, 1, 0)), ((0, 1), (1, 0, 1)), ((1, 2), (0, 1, 0)),
                      ((True,), (0, 1)), ((1,), (0, True)), ((1,), (False, 1)), ([1], (0, 1)),
                      ((1,), [0, 1]), [(1,), (0, 1)]):
            self.assertIs(is_right(string, wish, value), False)

    def test_each_dealing_of_short_strings(self):
        for string in brute.SHORT[:10]:
            for many in (2, 3):
                for cuts in range(3):
                    found = brute.dealings(string, many, cuts)
                    wish = brute.held(string, many, found[len(found) // 2]) if found else None
                    for value in found:
                        expected = brute.held(string, many, value) == wish
                        self.assertIs(is_right(string, wish, value), expected)


if __name__ == "__main__":
    unittest.main()
