import unittest

from beadshares.errors import BadTakers, BadWeights, Odd
from beadshares.strings import String
from beadshares.wishes import even, shares, wish_error
from tests import brute
from tests.samples import GREAT_TWO, LONG, NOTHING_RIGHT, SAMPLE, nested, only_tuples, spoilt

WISH = ((3, 3, 0, 0), (3, 3, 0, 0))
THREE = ((6, 0, 0, 0), (0, 5, 0, 0), (0, 1, 0, 0))
ODD = String(((0, 4), (1, 3), (2, 6), (3, 5)))


class WishCase(unittest.TestCase):
    def assert_odd(self, kind, call, *arguments):
        with self.assertRaises(Odd) as caught:
            call(*arguments)
        self.assertIs(type(caught.exception.kind), int)
        self.assertEqual(caught.exception.kind, kind)

    def assert_raises_with(self, error, name, value, call, *arguments):
        with self.assertRaises(error) as caught:
            call(*arguments)
        self.assertIs(type(caught.exception), error)
        self.assertIs(getattr(caught.exception, name), value)


class WishErrorTest(WishCase):
    def test_wishes(self):
        for wish in (WISH, THREE, ((6, 6, 0, 0), (0, 0, 0, 0)), ((0, 0, 0, 0),) * 2 + ((6, 6, 0, 0),)):
            self.assertIsNone(wish_error(SAMPLE, wish))
        for string in brute.SHORT:
            for many in (2, 3):
                for wish in brute.wishes(string, many):
                    self.assertIsNone(wish_error(string, wish))

    def test_the_document_s_sums(self):
        self.assertEqual(wish_error(SAMPLE, ((1, 1, 0, 0), WISH[1])), "sums")

    def test_takers(self):
        row = (3, 3, 0, 0)
        for value in ((), (row,), (row,) * 4, [row, row], row, (6, 6, 0, 0), {0: row, 1: row}):
            self.assertEqual(wish_error(SAMPLE, value), "takers", value)
        self.assertEqual(wish_error(SAMPLE, ((6, 6, 0, 0),)), "takers")
        self.assertEqual(wish_error(SAMPLE, (None,) * 4), "takers")

    def test_counts(self):
        row = (3, 3, 0, 0)
        wrong = [[3, 3, 0, 0], (3, 3, 0), (3, 3, 0, 0, 0), (3, 3, 0, -1), (3, 3, 0, None),
                 (3, 3, 0, False), (3, 3, "0", 0), (3, 3, (0,), 0), (-3, 3, 0, 0), 6, None, SAMPLE]
        for item in wrong:
            for value in ((row, item), (item, row), (row, item, row), (item, item, item)):
                self.assertEqual(wish_error(SAMPLE, value), "counts", value)

    def test_true_is_no_one_and_false_no_nought(self):
        string = String(((0, 1), (1, 1)))
        self.assertIsNone(wish_error(string, ((1, 0, 0, 0), (0, 1, 0, 0))))
        self.assertEqual(wish_error(string, ((True, 0, 0, 0), (0, 1, 0, 0))), "counts")
        self.assertEqual(wish_error(string, ((1, 0, 0, 0), (False, 1, 0, 0))), "counts")

    def test_negative_numbers_that_make_the_sums_right(self):
        self.assertEqual(wish_error(SAMPLE, ((7, 6, 0, 0), (-1, 0, 0, 0))), "counts")

    def test_sums(self):
        wrong = [((3, 3, 0, 0), (3, 3, 0, 1)), ((6, 6, 0, 0), (6, 6, 0, 0)), WISH + WISH[:1],
                 ((0, 0, 0, 0),) * 3, ((10 ** 59, 3, 0, 0), (3, 3, 0, 0)), ((3, 3, 0, 0), (3, 2, 1, 0))]
        for value in wrong:
            self.assertEqual(wish_error(SAMPLE, value), "sums", value)

    def test_the_first_word_that_applies(self):
        self.assertEqual(wish_error(SAMPLE, [(None,)]), "takers")
        self.assertEqual(wish_error(SAMPLE, ((9, 9, 9, 9), None)), "counts")

    def test_any_value(self):
        for value in NOTHING_RIGHT:
            with self.subTest(value=value):
                expected = "counts" if value == (None, None) else "takers"
                self.assertEqual(wish_error(SAMPLE, value), expected)
                self.assertEqual(wish_error(SAMPLE, (WISH[0], value)), "counts")
        for wish in (WISH, THREE):
            for value in spoilt(wish):
                with self.subTest(value=value):
                    self.assertIn(wish_error(SAMPLE, value), ("takers", "counts", "sums"))
        self.assertEqual(wish_error(SAMPLE, (nested(11), nested(11))), "counts")

    def test_great_numbers(self):
        self.assertIsNone(wish_error(GREAT_TWO, ((LONG, 3 * LONG, 0, 0), (2 * LONG, 0, 0, 0))))
        self.assertEqual(
            wish_error(GREAT_TWO, ((LONG, 3 * LONG, 0, 0), (2 * LONG - 1, 0, 0, 0))), "sums")


class EvenTest(WishCase):
    def test_the_document_s_wish(self):
        self.assertEqual(even(SAMPLE, 2), WISH)
        self.assertEqual(even(SAMPLE, 3), ((2, 2, 0, 0),) * 3)

    def test_great_numbers(self):
        self.assertEqual(even(GREAT_TWO, 3), ((LONG, LONG, 0, 0),) * 3)
        self.assertEqual(even(GREAT_TWO, 2), ((3 * LONG // 2, 3 * LONG // 2, 0, 0),) * 2)

    def test_what_is_no_two_or_three(self):
        for many in [0, 1, 4, -2, 10 ** 59, *NOTHING_RIGHT]:
            with self.subTest(many=many):
                self.assert_raises_with(BadTakers, "many", many, even, SAMPLE, many)

    def test_takers_come_ahead_of_kinds(self):
        self.assert_raises_with(BadTakers, "many", True, even, ODD, True)

    def test_the_first_kind_that_cannot_be_shared(self):
        self.assert_odd(1, even, ODD, 2)
        self.assert_odd(0, even, ODD, 3)
        self.assert_odd(3, even, String(((0, 2), (3, 1))), 2)
        self.assert_odd(0, even, String(((3, 1), (0, 1))), 2)
        self.assert_odd(2, even, String(((2, LONG - 1),)), 2)
        self.assert_odd(2, even, String(((2, LONG),)), 3)
        self.assertEqual(even(String(((2, LONG - 1),)), 3), ((0, 0, (LONG - 1) // 3, 0),) * 3)


class SharesTest(WishCase):
    def test_the_document_s_shares(self):
        self.assertEqual(shares(SAMPLE, (1, 2)), ((2, 2, 0, 0), (4, 4, 0, 0)))

    def test_weights_that_are_alike(self):
        for weight in (1, 7, 1000):
            self.assertEqual(shares(SAMPLE, (weight,) * 2), even(SAMPLE, 2))
            self.assertEqual(shares(SAMPLE, (weight,) * 3), even(SAMPLE, 3))

    def test_three_weights(self):
        self.assertEqual(shares(SAMPLE, (1, 3, 2)), ((1, 1, 0, 0), (3, 3, 0, 0), (2, 2, 0, 0)))
        self.assertEqual(shares(SAMPLE, (2, 6, 4)), shares(SAMPLE, (1, 3, 2)))

    def test_the_least_and_the_greatest_weight(self):
        string = String(((0, 1001), (1, 2002)))
        self.assertEqual(shares(string, (1, 1000)), ((1, 2, 0, 0), (1000, 2000, 0, 0)))
        self.assertEqual(shares(string, (1000, 1)), ((1000, 2000, 0, 0), (1, 2, 0, 0)))
        great = String(((3, LONG),))
        self.assertEqual(shares(great, (1000, 1000)), ((0, 0, 0, LONG // 2),) * 2)
        self.assertEqual(shares(String(((3, 3 * LONG // 4),)), (1, 1, 1)), ((0, 0, 0, LONG // 4),) * 3)

    def test_the_first_kind_that_cannot_be_shared(self):
        self.assert_odd(0, shares, ODD, (1, 2))
        self.assert_odd(1, shares, ODD, (1, 3))
        self.assert_odd(2, shares, String(((2, 5), (1, 4))), (1, 1))
        self.assert_odd(0, shares, String(((0, 500), (1, 1001))), (1, 1000))
        self.assert_odd(1, shares, String(((1, LONG),)), (1, 1, 1))
        self.assert_odd(1, shares, String(((0, 4), (1, 6))), (1, 1, 2))

    def test_each_taker_s_share_must_be_an_integer(self):
        # 12 is shared by 1 + 5 + 3 = 9 parts: 12 * 3 // 9 is exact, 12 * 1 // 9 is not.
        self.assert_odd(0, shares, String(((0, 12),)), (3, 1, 5))
        self.assert_odd(0, shares, String(((0, 12),)), (3, 5, 1))

    def test_wrong_weights(self):
        wrong = [(), (1,), (1, 1, 1, 1), [1, 1], (1, 0), (0, 1), (1, -1), (1, 1001), (1001, 1, 1),
                 (1, True), (True, True), (1, "1"), (1, None), ((1,), 1), "11", 2, {0: 1, 1: 1},
                 (SAMPLE, SAMPLE), (1, 10 ** 59)]
        for weights in [*wrong, *NOTHING_RIGHT, *spoilt((1, 2, 3))[:4], *WISH]:
            with self.subTest(weights=weights):
                self.assert_raises_with(BadWeights, "weights", weights, shares, SAMPLE, weights)

    def test_weights_come_ahead_of_kinds(self):
        self.assert_raises_with(BadWeights, "weights", None, shares, ODD, None)

    def test_against_the_fractions(self):
        weights = [(a, b) for a in range(1, 5) for b in range(1, 5)]
        weights += [(a, b, c) for a, b in weights for c in range(1, 4)]
        for string in brute.SHORT:
            for row in weights:
                wrong = [kind for kind in range(4) for weight in row
                         if string.totals[kind] * weight % sum(row)]
                with self.subTest(runs=string.runs, weights=row):
                    if wrong:
                        self.assert_odd(wrong[0], shares, string, row)
                        continue
                    wish = shares(string, row)
                    self.assertIsNone(wish_error(string, wish))
                    self.assertTrue(only_tuples(wish))
                    for weight, counts in zip(row, wish):
                        for total, count in zip(string.totals, counts):
                            self.assertEqual(total * weight, count * sum(row))


if __name__ == "__main__":
    unittest.main()
