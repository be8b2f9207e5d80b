"""[19]: walkers."""

import random
import unittest

from beadshares.cutting import possible
from beadshares.errors import NoBack, NoChoice
from beadshares.strings import String
from beadshares.walkers import Walker
from beadshares.wishes import even
from tests import brute
from tests.samples import GREAT, GREAT_TWO, LONG, NOTHING_RIGHT, SAMPLE, only_tuples, spoilt

WISH = ((3, 3, 0, 0), (3, 3, 0, 0))
NOUGHT = (0, 0, 0, 0)
TABLES = [brute.Table(string, many) for string in brute.SHORT for many in (2, 3)]


def expected_choices(layouts, layout):
    """Return the choices of a walker that stands at a layout."""
    places, takers = layout
    made = len(takers)
    found = set()
    for all_places, all_takers in layouts:
        if (all_places[:len(places)], all_takers[:made]) != layout or made == len(all_takers):
            continue
        found.add((all_places[made - 1], all_takers[made]) if made else all_takers[:1])
    return tuple(sorted(found))


class WalkerCase(unittest.TestCase):
    def assert_no_choice(self, walker, *values):
        for value in values:
            before = walker.layout, walker.choices, len(walker)
            with self.subTest(value=value), self.assertRaises(NoChoice) as caught:
                walker(value)
            self.assertIs(caught.exception.choice, value)
            self.assertEqual((walker.layout, walker.choices, len(walker)), before)

    def assert_no_back(self, walker, *values):
        for value in values:
            before = walker.layout, walker.choices, len(walker)
            with self.subTest(value=value), self.assertRaises(NoBack) as caught:
                walker.back(value)
            self.assertIs(caught.exception.many, value)
            self.assertEqual((walker.layout, walker.choices, len(walker)), before)

    def assert_stands(self, walker, layouts, layout):
        self.assertEqual(walker.layout, layout)
        self.assertEqual(len(walker), len(layout[1]))
        self.assertEqual(walker.choices, expected_choices(layouts, layout))
        self.assertTrue(only_tuples((walker.layout, walker.choices)))


class ChoicesTest(WalkerCase):
    def test_the_document_s_example(self):
        walker = Walker(SAMPLE, WISH, 2)
        self.assertEqual((walker.layout, len(walker)), (((), ()), 0))
        self.assertIsNone(walker((1,)))
        self.assertEqual((walker.choices, walker.layout, len(walker)), (((0, 0),), ((), (1,)), 1))
        walker((0, 0))
        self.assertEqual((walker.choices, walker.layout), (((3, 1),), ((0,), (1, 0))))
        walker((3, 1))
        self.assertEqual((walker.choices, walker.layout, len(walker)), ((), ((0, 3), (1, 0, 1)), 3))

    def test_all_ways_against_all_dealings(self):
        for table in TABLES:
            for wish in brute.wishes(table.string, table.many)[::3]:
                for cuts in range(4):
                    layouts = table.possible(wish, cuts)
                    walker = Walker(table.string, wish, cuts)
                    reached = []
                    self.go_all_ways(walker, layouts, ((), ()), reached)
                    self.assertEqual(tuple(sorted(reached)), layouts)

    def go_all_ways(self, walker, layouts, layout, reached):
        self.assert_stands(walker, layouts, layout)
        if len(walker) and not walker.choices:
            reached.append(walker.layout)
        for choice in walker.choices:
            walker(choice)
            places, takers = layout
            self.go_all_ways(walker, layouts, (places + choice[:-1], takers + choice[-1:]), reached)
            self.assertEqual(walker.back(), layout)

    def test_four_cuts(self):
        table = brute.Table(SAMPLE, 2)
        for wish in (WISH, ((2, 4, 0, 0), (4, 2, 0, 0)), ((5, 1, 0, 0), (1, 5, 0, 0))):
            reached = []
            self.go_all_ways(Walker(SAMPLE, wish, 4), table.possible(wish, 4), ((), ()), reached)
            self.assertEqual(len(reached), len(table.possible(wish, 4)))

    def test_no_cut(self):
        walker = Walker(SAMPLE, (NOUGHT, SAMPLE.totals), 0)
        self.assertEqual(walker.choices, ((1,),))
        walker((1,))
        self.assertEqual((walker.choices, walker.layout), ((), ((), (1,))))

    def test_a_wish_that_cannot_be_met(self):
        one = String(((2, 1),))
        for string, wish, cuts in ((SAMPLE, WISH, 0), (SAMPLE, WISH, 1), (one, (one.totals, NOUGHT), 2),
                                   (GREAT_TWO, ((3 * LONG, 0, 0, 0), (0, 3 * LONG, 0, 0)), 4)):
            walker = Walker(string, wish, cuts)
            self.assert_stands(walker, (), ((), ()))
            self.assertEqual(walker.choices, ())
            self.assert_no_choice(walker, (0,), (1,), (), (0, 1), None)
            self.assert_no_back(walker, 1, 0)

    def test_great_lengths(self):
        for string, many, cuts in ((GREAT_TWO, 3, 4), (GREAT_TWO, 2, 4), (GREAT, 2, 3), (GREAT, 2, 4)):
            wish = even(string, many)
            layouts = possible(string, wish, cuts)
            reached = []
            self.go_all_ways(Walker(string, wish, cuts), layouts, ((), ()), reached)
            self.assertEqual(tuple(sorted(reached)), layouts)
            self.assertGreater(len(layouts), 0)


class NoChoiceTest(WalkerCase):
    def test_what_is_none_of_choices(self):
        walker = Walker(SAMPLE, WISH, 2)
        self.assertEqual(walker.choices, ((0,), (1,)))
        wrong = [(2,), (-1,), (True,), (False,), [0], [1], 0, 1, True, "0", ("0",), ((0,),), (0, 0),
                 (None,), (0, None), {0: 0}, {0}, (SAMPLE,), walker, (walker,), ((0, 3), (0, 1, 0))]
        self.assert_no_choice(walker, *wrong)
        walker((0,))
        self.assertEqual(walker.choices, ((0, 1),))
        wrong = [(0,), (1,), (0, 0), (1, 1), (3, 1), (0, True), (False, 1), (False, True), [0, 1],
                 (0, 1, 0), ((0, 1),), ((0,), (1,)), "01", ("0", "1"), (-6, 1), (0, 10 ** 60 - 1)]
        self.assert_no_choice(walker, *wrong)

    def test_at_its_end(self):
        walker = Walker(SAMPLE, WISH, 2)
        for choice in ((0,), (0, 1), (3, 0)):
            walker(choice)
        self.assert_no_choice(walker, (0,), (3, 0), (3, 1), (), None)

    def test_any_value(self):
        walker = Walker(SAMPLE, WISH, 2)
        for value in NOTHING_RIGHT:
            if value != (0,):
                self.assert_no_choice(walker, value)
        self.assert_no_choice(walker, *[value for value in spoilt((7, 1)) if value != (1,)])
        walker((0,))
        self.assert_no_choice(walker, *NOTHING_RIGHT)
        self.assert_no_choice(walker, *[value for value in spoilt((0, 1)) if value != (0, 1)])


class BackTest(WalkerCase):
    def test_what_is_left_is_returned(self):
        walker = Walker(SAMPLE, WISH, 2)
        for choice in ((0,), (0, 1), (3, 0)):
            walker(choice)
        self.assertEqual(walker.back(), ((0,), (0, 1)))
        self.assertEqual(walker.back(many=1), ((), (0,)))
        walker((0, 1))
        walker((3, 0))
        self.assertEqual(walker.back(2), ((), (0,)))
        self.assertEqual(walker.back(1), ((), ()))
        for choice in ((0,), (0, 1), (3, 0)):
            walker(choice)
        self.assertEqual(walker.back(3), ((), ()))
        self.assertEqual((len(walker), walker.layout, walker.choices), (0, ((), ()), ((0,), (1,))))

    def test_back_to_the_start_and_on_otherwise(self):
        walker = Walker(SAMPLE, WISH, 2)
        for choice in ((0,), (0, 1), (3, 0)):
            walker(choice)
        walker.back(3)
        for choice in ((1,), (0, 0), (3, 1)):
            walker(choice)
        self.assertEqual(walker.layout, ((0, 3), (1, 0, 1)))

    def test_no_back(self):
        walker = Walker(SAMPLE, WISH, 2)
        self.assert_no_back(walker, 1, 0)
        with self.assertRaises(NoBack) as caught:
            walker.back()
        self.assertEqual(caught.exception.many, 1)
        walker((0,))
        walker((0, 1))
        self.assert_no_back(walker, 3, 0, -1, -2, True, False, None, "1", (1,), [1], {1: 1}, 10 ** 60 - 1)
        self.assert_no_back(walker, *NOTHING_RIGHT)
        self.assertEqual(walker.back(2), ((), ()))


class TwinTest(WalkerCase):
    def test_it_stands_alike(self):
        walker = Walker(SAMPLE, WISH, 3)
        for choice in (None, (0,)):
            if choice is not None:
                walker(choice)
            twin = walker.twin()
            self.assertIsInstance(twin, Walker)
            self.assertIsNot(twin, walker)
            self.assertIs(twin == walker, True)
            self.assertEqual((twin.layout, twin.choices, len(twin)),
                             (walker.layout, walker.choices, len(walker)))

    def test_it_goes_by_itself(self):
        walker = Walker(SAMPLE, WISH, 2)
        walker((0,))
        twin = walker.twin()
        twin((0, 1))
        self.assertEqual((walker.layout, twin.layout), (((), (0,)), ((0,), (0, 1))))
        walker.back()
        walker((1,))
        self.assertEqual((walker.choices, twin.choices), (((0, 0),), ((3, 0),)))
        twin((3, 0))
        self.assertEqual(twin.back(3), ((), ()))
        self.assertEqual(walker.layout, ((), (1,)))
        self.assertEqual(twin.choices, ((0,), (1,)))

    def test_a_twin_s_twin_is_one_of_the_first(self):
        walker = Walker(GREAT_TWO, even(GREAT_TWO, 3), 4)
        walker(walker.choices[0])
        twin = walker.twin().twin()
        self.assertIs(twin == walker, True)
        twin(twin.choices[-1])
        self.assertIs(twin != walker, True)
        twin.back()
        self.assertIs(twin != walker, False)

    def test_ways_of_walkers_and_their_twins(self):
        pick = random.Random(3)
        table = brute.Table(SAMPLE, 3, 3)
        wish = ((3, 2, 0, 0), (2, 3, 0, 0), (1, 1, 0, 0))
        layouts = table.possible(wish, 3)
        self.assertGreater(len(layouts), 2)
        stands = [(Walker(SAMPLE, wish, 3), ((), ()))]
        for _ in range(400):
            at = pick.randrange(len(stands))
            walker, (places, takers) = stands[at]
            what = pick.randrange(4)
            if what == 0 and takers:
                many = pick.randint(1, len(takers))
                left = takers[:len(takers) - many]
                stands[at] = walker, (places[:max(0, len(left) - 1)], left)
                self.assertEqual(walker.back(many), stands[at][1])
            elif what == 1 and len(stands) < 6:
                stands.append((walker.twin(), (places, takers)))
            elif walker.choices:
                choice = pick.choice(walker.choices)
                self.assertIsNone(walker(choice))
                stands[at] = walker, (places + choice[:-1], takers + choice[-1:])
            for walker, layout in stands:
                self.assert_stands(walker, layouts, layout)
            for one, layout in stands:
                for other, other_layout in stands:
                    self.assertIs(one == other, layout == other_layout)


class EqualTest(unittest.TestCase):
    def assert_equal(self, expected, one, other):
        self.assertIs(one == other, expected)
        self.assertIs(one != other, not expected)

    def test_what_makes_walkers_equal(self):
        walker = Walker(SAMPLE, WISH, 2)
        self.assert_equal(True, walker, walker)
        self.assert_equal(True, walker, Walker(String(SAMPLE.runs), ((3, 3, 0, 0),) * 2, 2))
        self.assert_equal(False, walker, Walker(SAMPLE, WISH, 3))
        self.assert_equal(False, walker, Walker(SAMPLE, WISH, 1))
        self.assert_equal(False, walker, Walker(SAMPLE, ((3, 2, 0, 0), (3, 4, 0, 0)), 2))
        self.assert_equal(False, walker, Walker(SAMPLE, (*WISH, NOUGHT), 2))
        self.assert_equal(False, walker, Walker(String(((0, 2), (1, 4), (0, 4), (1, 2))), WISH, 2))

    def test_the_layout_counts(self):
        one, other = Walker(SAMPLE, WISH, 2), Walker(SAMPLE, WISH, 2)
        one((0,))
        self.assert_equal(False, one, other)
        other((1,))
        self.assert_equal(False, one, other)
        other.back()
        other((0,))
        self.assert_equal(True, one, other)
        one((0, 1))
        self.assert_equal(False, one, other)
        one.back()
        self.assert_equal(True, one, other)

    def test_wishes_that_cannot_be_met(self):
        # All of these have no choice, but they are not of one wish and number of cuts.
        wishes = (WISH, ((5, 1, 0, 0), (1, 5, 0, 0)))
        walkers = [Walker(SAMPLE, wish, cuts) for wish in wishes for cuts in (0, 1)]
        for at, one in enumerate(walkers):
            for place, other in enumerate(walkers):
                self.assertEqual(one.choices, ())
                self.assert_equal(at == place, one, other)

    def test_any_value(self):
        walker = Walker(SAMPLE, WISH, 2)
        for value in [*NOTHING_RIGHT, ((), ()), walker.layout, walker.choices, WISH, 2]:
            self.assert_equal(False, walker, value)
            self.assert_equal(False, value, walker)

    def test_it_is_not_walked_over(self):
        with self.assertRaises(TypeError):
            iter(Walker(SAMPLE, WISH, 2))


if __name__ == "__main__":
    unittest.main()
