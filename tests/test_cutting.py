import itertools
import unittest

from beadshares.cutting import deal, fewest, paper, paper_holds, possible
from beadshares.dealings import is_right
from beadshares.layouts import amounts, first_dealing, is_layout, layouts
from beadshares.strings import String
from beadshares.wishes import even, shares
from tests import brute
from tests.samples import (
    GREAT, GREAT_TWO, LONG, NOTHING_RIGHT, SAMPLE, only_tuples, spoilt)

WISH = ((3, 3, 0, 0), (3, 3, 0, 0))
PAPER = ((((), (0,)), 0, (1,)), (((), (1,)), 1, (0,)))
ONE = String(((2, 1),))
TABLES = [brute.Table(string, many) for string in brute.SHORT for many in (2, 3)]
# Six runs that three takers cannot share by NEVER with four cuts.
NEEDS_MANY = String(((0, LONG), (1, LONG), (2, LONG), (0, LONG), (1, LONG), (3, LONG)))
HALF, QUARTER = LONG // 2, LONG // 4
NEVER = ((LONG, LONG, HALF, HALF), (HALF, HALF, QUARTER, QUARTER), (HALF, HALF, QUARTER, QUARTER))


def some_wishes(table):
    """Return some wishes, and some that dealings with few and with many cuts meet."""
    found = brute.wishes(table.string, table.many)
    picked = found[::1 + len(found) // 8]
    for by_layout in table.by_layout:
        met = sorted({held for rows in by_layout.values() for _, held in rows})
        picked += met[::1 + len(met) // 3]
    return picked


class PossibleTest(unittest.TestCase):
    def test_the_document_s_example(self):
        self.assertEqual(possible(SAMPLE, WISH, 1), ())
        self.assertEqual(possible(SAMPLE, WISH, 0), ())
        self.assertIn(((0, 3), (0, 1, 0)), possible(SAMPLE, WISH, 2))

    def test_no_cut(self):
        wish = ((0, 0, 0, 0), (6, 6, 0, 0))
        self.assertEqual(possible(SAMPLE, wish, 0), (((), (1,)),))
        self.assertEqual(possible(SAMPLE, wish, 1), ())

    def test_against_all_dealings(self):
        for table in TABLES:
            for wish in some_wishes(table):
                for cuts in range(5):
                    found = possible(table.string, wish, cuts)
                    self.assertEqual(found, table.possible(wish, cuts))
                    self.assertTrue(only_tuples(found))

    def test_great_lengths(self):
        wish = even(GREAT_TWO, 3)
        found = possible(GREAT_TWO, wish, 2)
        self.assertEqual({places for places, _ in found}, {(1, 3)})
        self.assertEqual(len(found), 6)
        self.assertEqual(possible(NEEDS_MANY, NEVER, 4), ())
        self.assertEqual(possible(GREAT_TWO, wish, 1), ())
        for layout in possible(GREAT_TWO, wish, 4):
            self.assertIs(is_right(GREAT_TWO, wish, first_dealing(GREAT_TWO, wish, layout)), True)


class FewestTest(unittest.TestCase):
    def test_the_document_s_example(self):
        self.assertEqual((fewest(SAMPLE, WISH), deal(SAMPLE, WISH)), (2, ((3, 9), (0, 1, 0))))

    def test_no_cut(self):
        for string in (ONE, SAMPLE, GREAT):
            nought = (0, 0, 0, 0)
            self.assertEqual(fewest(string, (nought, string.totals)), 0)
            self.assertEqual(deal(string, (nought, string.totals)), ((), (1,)))
            self.assertEqual(deal(string, (nought, nought, string.totals)), ((), (2,)))

    def test_none(self):
        self.assertIsNone(fewest(NEEDS_MANY, NEVER))
        self.assertIsNone(deal(NEEDS_MANY, NEVER))
        string = String(((0, 1), (1, 1), (0, 1), (1, 1), (0, 1), (1, 1)))
        for wish in (((3, 0, 0, 0), (0, 3, 0, 0)), ((0, 3, 0, 0), (3, 0, 0, 0), (0, 0, 0, 0))):
            self.assertIsNone(fewest(string, wish))
            self.assertIsNone(deal(string, wish))

    def test_four_cuts(self):
        string = String(((0, LONG), (1, LONG), (0, LONG), (1, LONG), (0, LONG)))
        wish = ((3 * LONG, 0, 0, 0), (0, 2 * LONG, 0, 0))
        self.assertEqual(fewest(string, wish), 4)
        self.assertEqual(deal(string, wish), (
            (LONG, 2 * LONG, 3 * LONG, 4 * LONG), (0, 1, 0, 1, 0)))

    def test_against_all_dealings(self):
        for table in TABLES:
            for wish in some_wishes(table):
                expected = None, None
                for cuts in reversed(range(5)):
                    for layout in table.possible(wish, cuts)[:1]:
                        expected = cuts, (table.right(wish, layout)[0], layout[1])
                with self.subTest(runs=table.string.runs, wish=wish):
                    self.assertEqual((fewest(table.string, wish), deal(table.string, wish)), expected)
                    self.assertTrue(only_tuples(deal(table.string, wish)))

    def test_great_lengths(self):
        wish = even(GREAT_TWO, 3)
        self.assertEqual(deal(GREAT_TWO, wish), ((2 * LONG, 4 * LONG), (0, 1, 2)))
        wish = shares(GREAT_TWO, (1, 5))
        self.assertEqual(fewest(GREAT_TWO, wish), 2)
        self.assertIs(is_right(GREAT_TWO, wish, deal(GREAT_TWO, wish)), True)

    def test_weights_of_one_and_a_thousand(self):
        string = String(((0, 1001 * 10 ** 26), (1, 1001 * 10 ** 26)))
        for weights in ((1, 1000), (1000, 1)):
            wish = shares(string, weights)
            self.assertEqual(fewest(string, wish), 2)
            self.assertIs(is_right(string, wish, deal(string, wish)), True)


class PaperTest(unittest.TestCase):
    def test_the_document_s_example(self):
        self.assertIsNone(paper(SAMPLE, WISH, 2))
        self.assertIs(paper_holds(SAMPLE, WISH, 0, PAPER), True)
        self.assertIs(paper_holds(SAMPLE, WISH, 0, paper(SAMPLE, WISH, 0)), True)
        self.assertEqual(len(paper(SAMPLE, WISH, 1)), 8)

    def test_against_all_dealings(self):
        for table in TABLES:
            for wish in some_wishes(table):
                for cuts in range(5):
                    self.assert_either_or(table, wish, cuts)

    def assert_either_or(self, table, wish, cuts):
        """Hold [2] (b): either a right dealing or a paper, not both."""
        with self.subTest(runs=table.string.runs, wish=wish, cuts=cuts):
            found = paper(table.string, wish, cuts)
            if table.possible(wish, cuts):
                self.assertIsNone(found)
                return
            self.assertTrue(only_tuples(found))
            self.assertTrue(table.is_paper(wish, cuts, found))
            self.assertIs(paper_holds(table.string, wish, cuts, found), True)

    def test_where_no_dealing_has_so_many_cuts(self):
        wish = ((0, 0, 1, 0), (0, 0, 0, 0))
        for cuts in range(1, 5):
            self.assertEqual(paper(ONE, wish, cuts), ())
            self.assertIs(paper_holds(ONE, wish, cuts, ()), True)
            self.assertIs(paper_holds(ONE, wish, cuts, ((((), (1,)), 2, (0,)),)), False)
        self.assertIsNone(paper(ONE, wish, 0))
        self.assertIs(paper_holds(ONE, wish, 0, ()), False)

    def test_great_lengths(self):
        for cuts in range(5):
            found = paper(NEEDS_MANY, NEVER, cuts)
            self.assertEqual(tuple(claim[0] for claim in found), layouts(NEEDS_MANY, 3, cuts))
            self.assertIs(paper_holds(NEEDS_MANY, NEVER, cuts, found), True)
            self.assertIs(paper_holds(NEEDS_MANY, NEVER, cuts, found[::-1]), True)
            self.assertIs(paper_holds(NEEDS_MANY, NEVER, cuts, found[1:]), False)
            self.assertIs(paper_holds(NEEDS_MANY, NEVER, cuts, found[:-1]), False)
            self.assertIs(paper_holds(NEEDS_MANY, NEVER, cuts, found[:-1] + found[:1]), False)
            for layout, kind, some in found[::97]:
                least, greatest = amounts(NEEDS_MANY, layout, kind, some)
                wished = sum(NEVER[taker][kind] for taker in some)
                self.assertTrue(wished < least or wished > greatest)

    def test_one_bead_decides(self):
        string = String(((0, LONG), (1, LONG)))
        wish = ((LONG, 0, 0, 0), (0, LONG, 0, 0))
        self.assertEqual(deal(string, wish), ((LONG,), (0, 1)))
        self.assertIsNone(paper(string, wish, 1))
        for wish in (((LONG - 1, 0, 0, 0), (1, LONG, 0, 0)), ((LONG, 1, 0, 0), (0, LONG - 1, 0, 0))):
            self.assertIsNone(paper(string, wish, 1))
        wish = ((LONG - 1, 1, 0, 0), (1, LONG - 1, 0, 0))
        self.assertIs(paper_holds(string, wish, 1, paper(string, wish, 1)), True)
        self.assertEqual(deal(string, wish), ((LONG - 1, 2 * LONG - 1), (0, 1, 0)))


class PaperHoldsTest(unittest.TestCase):
    def assert_holds(self, expected, value, cuts=0, wish=WISH, string=SAMPLE):
        with self.subTest(value=value, cuts=cuts):
            self.assertIs(paper_holds(string, wish, cuts, value), expected)

    def test_each_claim_that_there_is(self):
        # Of two takers each tells the same; the wish is wrong for both kinds.
        for layout in layouts(SAMPLE, 2, 0):
            other = [claim for claim in PAPER if claim[0] != layout]
            for kind in (0, 1):
                for some in ((0,), (1,)):
                    self.assert_holds(True, (*other, (layout, kind, some)))
                    self.assert_holds(True, ((layout, kind, some), *other))

    def test_a_claim_lost_or_doubled(self):
        self.assert_holds(False, ())
        for claim in PAPER:
            self.assert_holds(False, (claim,))
            self.assert_holds(False, (claim, claim))
            self.assert_holds(False, (*PAPER, claim))
        again = (((), (0,)), 1, (1,))
        self.assert_holds(False, (*PAPER, again))
        self.assert_holds(False, (PAPER[0], again))

    def test_a_claim_of_another_kind(self):
        first, second = PAPER
        for kind in (2, 3, 4, -1, True, False, None, "0", (0,)):
            self.assert_holds(False, ((first[0], kind, first[2]), second))
            self.assert_holds(False, (first, (second[0], kind, second[2])))

    def test_a_kind_that_is_right(self):
        wish = ((4, 3, 0, 0), (2, 3, 0, 0))
        layout = ((0,), (0, 1))
        # Taker 0 wishes all of kind 0 that the first run can give it, but some of kind 1.
        self.assertEqual(amounts(SAMPLE, layout, 0, (0,)), (1, 4))
        found = paper(SAMPLE, wish, 1)
        rest = tuple(claim for claim in found if claim[0] != layout)
        for some in ((0,), (1,)):
            self.assert_holds(True, (*rest, (layout, 1, some)), 1, wish)
            self.assert_holds(False, (*rest, (layout, 0, some)), 1, wish)

    def test_claims_of_other_takers(self):
        first, second = PAPER
        for some in ((), (0, 1), (1, 0), (0, 0), (2,), (-1,), (True,), (False,), [0], [1], 0, 1,
                     None, "0", (None,), ((0,),), {0: 0}):
            self.assert_holds(False, ((first[0], first[1], some), second))
            self.assert_holds(False, (first, (second[0], second[1], some)))

    def test_three_takers(self):
        wish = ((6, 0, 0, 0), (0, 3, 0, 0), (0, 3, 0, 0))
        table = brute.Table(SAMPLE, 3, 2)
        found = paper(SAMPLE, wish, 2)
        self.assertTrue(table.is_paper(wish, 2, found))
        for at, (layout, _, _) in enumerate(found):
            def other(kind, some):
                return found[:at] + ((layout, kind, some),) + found[at + 1:]
            for kind, some in itertools.product((0, 1, 2), brute.groups(3)):
                value = other(kind, some)
                self.assert_holds(table.is_paper(wish, 2, value), value, 2, wish)
            for some in ((), (0, 1, 2), (1, 0), (2, 0), (0, 0), (3,), (0, 3), (0, True)):
                self.assert_holds(False, other(0, some), 2, wish)

    def test_for_another_number_of_cuts(self):
        for cuts in range(1, 5):
            self.assert_holds(False, PAPER, cuts)
        one = paper(SAMPLE, WISH, 1)
        self.assert_holds(True, one, 1)
        for cuts in (0, 2, 3, 4):
            self.assert_holds(False, one, cuts)
        self.assert_holds(False, (*one[:-1], PAPER[0]), 1)
        self.assert_holds(False, (*PAPER, *one), 0)
        self.assert_holds(False, (*PAPER, *one), 1)

    def test_for_another_wish(self):
        self.assert_holds(False, PAPER, 0, ((6, 6, 0, 0), (0, 0, 0, 0)))
        self.assert_holds(False, PAPER, 0, (*WISH, (0, 0, 0, 0)))
        self.assert_holds(False, paper(SAMPLE, WISH, 1), 1, ((4, 0, 0, 0), (2, 6, 0, 0)))

    def test_layouts_that_are_none(self):
        first, second = PAPER
        for layout in (((), (2,)), ((), ()), ((0,), (0,)), ((), [0]), ([], (0,)), [(), (0,)],
                       ((), (False,)), ((),), None, 0, (), ((), (0,), ())):
            self.assert_holds(False, ((layout, 0, (1,)), second))
        one = paper(SAMPLE, WISH, 1)
        for layout in (((4,), (0, 1)), ((-1,), (0, 1)), ((False,), (0, 1)), ((0,), (0, 0))):
            self.assert_holds(False, ((layout, *one[0][1:]), *one[1:]), 1)
            self.assert_holds(False, (*one, (layout, *one[0][1:])), 1)

    def test_any_value(self):
        for value in [*NOTHING_RIGHT, *spoilt(PAPER), WISH, layouts(SAMPLE, 2, 0), PAPER[0]]:
            self.assert_holds(False, value)
        for value in NOTHING_RIGHT:
            self.assert_holds(False, (PAPER[0], value))
            self.assert_holds(False, (value, value))
        one = paper(SAMPLE, WISH, 1)
        for value in spoilt(one):
            self.assert_holds(False, value, 1)

    def test_no_paper_where_a_dealing_is_right(self):
        # Whatever is claimed of a layout with which a dealing is right, it does not hold.
        found = paper(SAMPLE, WISH, 1)
        for layout in possible(SAMPLE, WISH, 2):
            for kind in range(4):
                for some in ((0,), (1,)):
                    value = tuple((of, kind, some) for of in layouts(SAMPLE, 2, 2))
                    self.assert_holds(False, value, 2)
                    self.assert_holds(False, ((layout, kind, some), *found), 2)


class GuaranteesTest(unittest.TestCase):
    def test_what_deal_returns_is_right_and_no_dealing_with_fewer_cuts_is(self):
        for table in TABLES:
            for wish in some_wishes(table):
                dealing = deal(table.string, wish)
                most = 5 if dealing is None else len(dealing[0])
                if dealing is not None:
                    self.assertIs(is_right(table.string, wish, dealing), True)
                for cuts in range(most):
                    self.assertEqual(table.possible(wish, cuts), ())

    def test_great_lengths_have_either_a_right_dealing_or_a_paper(self):
        cases = [(GREAT, wish) for wish in (
            ((LONG, LONG, HALF, HALF),) * 2,
            ((LONG, LONG, LONG, 1), (LONG, LONG, 0, LONG - 1)),
            ((HALF, HALF, HALF, HALF), (HALF, HALF, HALF, 0), (LONG, LONG, 0, HALF)))]
        cases += [(GREAT_TWO, even(GREAT_TWO, 2)), (GREAT_TWO, even(GREAT_TWO, 3)), (NEEDS_MANY, NEVER)]
        for string, wish in cases:
            for cuts in range(5):
                found = paper(string, wish, cuts)
                told = possible(string, wish, cuts)
                self.assertEqual(found is None, told != ())
                if found is not None:
                    self.assertIs(paper_holds(string, wish, cuts, found), True)
                for layout in told[:1]:
                    dealing = first_dealing(string, wish, layout)
                    self.assertIs(is_right(string, wish, dealing), True)
                    self.assertEqual(len(dealing[0]), cuts)

    def test_two_takers_need_at_most_as_many_cuts_as_there_are_kinds(self):
        told = 0
        for string in even_strings():
            with self.subTest(runs=string.runs):
                self.assertLessEqual(fewest(string, even(string, 2)), len(string.kinds))
            told += 1
        self.assertGreater(told, 500)
        for string in (GREAT, GREAT_TWO, NEEDS_MANY):
            self.assertLessEqual(fewest(string, even(string, 2)), len(string.kinds))

    def test_four_kinds_can_need_four_cuts(self):
        string = String(((0, LONG), (1, LONG), (2, LONG), (3, LONG)))
        self.assertEqual(fewest(string, even(string, 2)), 4)


def even_strings():
    """Return short strings with an even number of beads of each kind."""
    rows = [(2,), (0, 3), (0, 1, 0), (0, 1, 2, 0), (0, 1, 0, 1, 0), (0, 1, 2, 1, 0), (0, 1, 0, 1, 0, 1),
            (0, 1, 2, 0, 1, 2), (0, 1, 2, 0, 2, 1), (0, 1, 2, 3, 0, 1), (3, 0, 1, 2, 0, 3)]
    strings = [String(tuple(zip(kinds, lengths))) for kinds in rows
               for lengths in itertools.product((1, 2, 3, 6), repeat=len(kinds))]
    return [string for string in strings if not any(total % 2 for total in string.totals)]


class PartsOfPapersTest(unittest.TestCase):
    def test_each_claim_tells_of_a_layout_with_so_many_cuts(self):
        for table in TABLES[:20]:
            for wish in some_wishes(table)[:4]:
                for cuts in range(4):
                    for layout, kind, some in paper(table.string, wish, cuts) or ():
                        self.assertIs(is_layout(table.string, table.many, layout), True)
                        self.assertEqual(len(layout[0]), cuts)
                        self.assertIn(kind, range(4))
                        self.assertIn(some, brute.groups(table.many))


if __name__ == "__main__":
    unittest.main()
