"""[20]: benches."""

import random
import unittest

from beadshares.benches import Bench
from beadshares.cutting import fewest
from beadshares.desks import Desk
from beadshares.errors import (
    BadString, BadTakers, Full, NoRun, NothingToUndo, Odd, ShareError)
from beadshares.strings import String
from beadshares.wishes import even
from tests.samples import GREAT, GREAT_TWO, LONG, NOTHING_RIGHT, SAMPLE

ONE = String(((0, 2),))
# These need 1, 2 and 3 cuts.
SINGLE, DOUBLE, TRIPLE = [String(tuple((kind, 2) for kind in range(many))) for many in (1, 2, 3)]


def stand(bench):
    return bench.string.runs, bench.version, bench.news, bench.fewest(), str(bench)


class BenchCase(unittest.TestCase):
    def assert_stand(self, bench, runs, version, news):
        self.assertEqual((bench.string.runs, bench.version, bench.news), (runs, version, news))
        self.assertIsInstance(bench.string, String)
        self.assertEqual(bench.fewest(), fewest(bench.string, even(bench.string, 2)))

    def assert_raises(self, bench, error, fields, call, *given):
        """Hold the error with its fields, and that the call changed nothing."""
        before = stand(bench)
        with self.subTest(given=given), self.assertRaises(error) as caught:
            call(*given)
        self.assertEqual(vars(caught.exception), fields)
        self.assertEqual(stand(bench), before)

    def assert_no_run(self, bench, call, number, *rest):
        before = stand(bench)
        with self.subTest(number=number), self.assertRaises(NoRun) as caught:
            call(number, *rest)
        self.assertIs(caught.exception.number, number)
        self.assertEqual(stand(bench), before)


class MakingTest(BenchCase):
    def test_a_new_bench(self):
        for string in (SAMPLE, ONE, GREAT, GREAT_TWO):
            bench = Bench(string)
            self.assert_stand(bench, string.runs, 0, "same")
            self.assertEqual(str(bench), "bench at version 0")

    def test_odd(self):
        for runs, kind in ((((0, 1),), 0), (((3, LONG - 1),), 3), (((2, 2), (1, 1), (0, 2), (3, 1)), 1)):
            with self.assertRaises(Odd) as caught:
                Bench(String(runs))
            self.assertEqual(caught.exception.kind, kind)


class EditsTest(BenchCase):
    def test_set_run(self):
        bench = Bench(SAMPLE)
        self.assertEqual(bench.set_run(1, (1, 4)), 1)
        self.assert_stand(bench, ((0, 4), (1, 4), (0, 2), (1, 4)), 1, "same")
        self.assertEqual(bench.set_run(number=0, run=(2, LONG)), 2)
        self.assert_stand(bench, ((2, LONG), (1, 4), (0, 2), (1, 4)), 2, "same")

    def test_put_run(self):
        bench = Bench(SAMPLE)
        self.assertEqual(bench.put_run(4, (0, 2)), 1)
        self.assertEqual(bench.put_run(0, (3, 2)), 2)
        self.assert_stand(bench, ((3, 2), (0, 4), (1, 2), (0, 2), (1, 4), (0, 2)), 2, "more")
        bench.drop_run(0)
        self.assertEqual(bench.put_run(number=2, run=(2, 8)), 4)
        self.assert_stand(bench, ((0, 4), (1, 2), (2, 8), (0, 2), (1, 4), (0, 2)), 4, "more")

    def test_drop_run(self):
        bench = Bench(String(((0, 2), (1, 2), (2, 2), (3, 2))))
        self.assertEqual(bench.drop_run(number=1), 1)
        self.assert_stand(bench, ((0, 2), (2, 2), (3, 2)), 1, "fewer")
        self.assertEqual(bench.drop_run(2), 2)
        self.assertEqual(bench.drop_run(0), 3)
        self.assert_stand(bench, ((2, 2),), 3, "fewer")

    def test_turn(self):
        bench = Bench(SAMPLE)
        self.assertEqual(bench.turn(), 1)
        self.assert_stand(bench, SAMPLE.runs[::-1], 1, "same")
        self.assertEqual(bench.turn(), 2)
        self.assert_stand(bench, SAMPLE.runs, 2, "same")

    def test_an_edit_that_changes_nothing_is_an_edit(self):
        bench = Bench(ONE)
        self.assertEqual((bench.turn(), bench.set_run(0, (0, 2)), bench.turn()), (1, 2, 3))
        self.assert_stand(bench, ONE.runs, 3, "same")
        self.assertEqual([bench.undo() for _ in range(3)], [2, 1, 0])

    def test_the_string_that_it_was_made_with_stays(self):
        string = String(SAMPLE.runs)
        bench = Bench(string)
        bench.turn()
        bench.put_run(0, (2, 2))
        self.assertEqual((string.runs, string.totals), (SAMPLE.runs, SAMPLE.totals))


class WrongEditsTest(BenchCase):
    def test_no_run(self):
        bench = Bench(SAMPLE)
        wrong = [4, 5, -1, -4, True, False, None, "0", (0,), [0], {0: 0}, 10 ** 60 - 1, SAMPLE, bench, *NOTHING_RIGHT]
        for number in wrong:
            self.assert_no_run(bench, bench.set_run, number, (0, 2))
            self.assert_no_run(bench, bench.set_run, number, None)
            self.assert_no_run(bench, bench.drop_run, number)
            self.assert_no_run(bench, bench.__getitem__, number)
            self.assert_no_run(bench, bench.__setitem__, number, (0, 2))
            if number != 4:
                self.assert_no_run(bench, bench.put_run, number, (0, 2))
                self.assert_no_run(bench, bench.put_run, number, None)
        self.assert_no_run(bench, bench.put_run, 5, (0, 2))

    def test_bad_strings(self):
        bench = Bench(SAMPLE)
        cases = [(1, "run", None), (1, "run", [1, 2]), (1, "run", (1, 2, 3)), (1, "kind", (4, 2)),
                 (1, "kind", (True, 2)), (1, "length", (2, 0)), (1, "length", (2, LONG + 1)),
                 (1, "length", (2, True)), (1, "same", (0, 2))]
        for number, word, run in cases:
            fields = {"number": number, "word": word}
            self.assert_raises(bench, BadString, fields, bench.set_run, 1, run)
            self.assert_raises(bench, BadString, fields, bench.put_run, 1, run)
            self.assert_raises(bench, BadString, fields, bench.__setitem__, 1, run)
        # The number is that of the second of two runs of one kind.
        self.assert_raises(bench, BadString, {"number": 2, "word": "same"}, bench.put_run, 1, (1, 2))
        self.assert_raises(bench, BadString, {"number": 1, "word": "same"}, bench.set_run, 0, (1, 2))
        self.assert_raises(bench, BadString, {"number": 4, "word": "same"}, bench.put_run, 4, (1, 2))
        for run in NOTHING_RIGHT:
            if run != (None, None):
                self.assert_raises(bench, BadString, {"number": 3, "word": "run"}, bench.set_run, 3, run)

    def test_a_seventh_run(self):
        bench = Bench(GREAT)
        fields = {"number": None, "word": "runs"}
        for number in (0, 3, 6):
            for run in ((2, 2), None, (9, 9)):
                self.assert_raises(bench, BadString, fields, bench.put_run, number, run)
        self.assert_no_run(bench, bench.put_run, 7, (2, 2))

    def test_the_only_run(self):
        bench = Bench(ONE)
        self.assert_raises(bench, BadString, {"number": None, "word": "runs"}, bench.drop_run, 0)
        self.assert_no_run(bench, bench.drop_run, 1)

    def test_a_seam_that_a_dropped_run_leaves(self):
        bench = Bench(SAMPLE)
        self.assert_raises(bench, BadString, {"number": 1, "word": "same"}, bench.drop_run, 1)
        self.assert_raises(bench, BadString, {"number": 2, "word": "same"}, bench.drop_run, 2)

    def test_odd(self):
        bench = Bench(SAMPLE)
        self.assert_raises(bench, Odd, {"kind": 0}, bench.set_run, 0, (0, 5))
        self.assert_raises(bench, Odd, {"kind": 1}, bench.set_run, 3, (1, LONG - 1))
        self.assert_raises(bench, Odd, {"kind": 2}, bench.set_run, 1, (2, 1))
        self.assert_raises(bench, Odd, {"kind": 3}, bench.put_run, 4, (3, 1))
        bench = Bench(String(((0, 1), (1, 2), (0, 1), (1, 2))))
        self.assert_raises(bench, Odd, {"kind": 0}, bench.drop_run, 0)
        # A string is told to be bad ahead of what cannot be shared.
        self.assert_raises(bench, BadString, {"number": 1, "word": "same"}, bench.set_run, 1, (0, 1))

    def test_a_call_that_raises_leaves_news(self):
        bench = Bench(DOUBLE)
        bench.put_run(2, (2, 2))
        self.assertEqual(bench.news, "more")
        for call, given in ((bench.set_run, (0, (0, 1))), (bench.drop_run, (9,)), (bench.put_run, (0, None))):
            with self.assertRaises((ShareError, NoRun)):
                call(*given)
            self.assert_stand(bench, TRIPLE.runs, 1, "more")


class FullTest(BenchCase):
    def test_twenty_edits(self):
        bench = Bench(SAMPLE)
        self.assertEqual([bench.turn() for _ in range(20)], list(range(1, 21)))
        calls = [(bench.set_run, (0, (0, 6))), (bench.put_run, (4, (0, 2))), (bench.drop_run, (0,)), (bench.turn, ()),
                 (bench.__setitem__, (0, (0, 6)))]
        for call, given in calls:
            self.assert_raises(bench, Full, {}, call, *given)
        wrong = [(bench.set_run, (9, (0, 6))), (bench.set_run, (0, None)), (bench.set_run, (0, (0, 5))),
                 (bench.put_run, (None, None)), (bench.put_run, (0, (0, 2))), (bench.put_run, (4, (0, 1))),
                 (bench.drop_run, (9,)), (bench.drop_run, (1,)), (bench.drop_run, (True,)),
                 (bench.__setitem__, ("0", None))]
        for call, given in wrong:
            self.assert_raises(bench, Full, {}, call, *given)
        self.assert_stand(bench, SAMPLE.runs, 20, "same")

    def test_an_undo_makes_room(self):
        bench = Bench(SAMPLE)
        for _ in range(20):
            bench.turn()
        self.assertEqual(bench.undo(), 19)
        self.assertEqual(bench.turn(), 20)
        self.assert_raises(bench, Full, {}, bench.turn)
        self.assertEqual([bench.undo() for _ in range(20)], list(reversed(range(20))))
        self.assert_stand(bench, SAMPLE.runs, 0, "same")


class UndoTest(BenchCase):
    def test_all_edits_and_one_more(self):
        bench = Bench(SAMPLE)
        seen = [bench.string.runs]
        for call, given in ((bench.put_run, (4, (2, 2))), (bench.turn, ()), (bench.set_run, (0, (3, 2))),
                            (bench.turn, ())):
            call(*given)
            seen.append(bench.string.runs)
        for version in reversed(range(4)):
            self.assertEqual(bench.undo(), version)
            self.assertEqual((bench.string.runs, bench.version), (seen[version], version))
        self.assert_raises(bench, NothingToUndo, {}, bench.undo)
        self.assert_raises(Bench(ONE), NothingToUndo, {}, Bench(ONE).undo)

    def test_on_otherwise(self):
        bench = Bench(SAMPLE)
        bench.turn()
        bench.undo()
        self.assertEqual(bench.put_run(4, (2, 2)), 1)
        self.assertEqual(bench.undo(), 0)
        self.assert_stand(bench, SAMPLE.runs, 0, "fewer")


class NewsTest(BenchCase):
    def test_edits_and_undos(self):
        bench = Bench(SINGLE)
        steps = [(lambda: bench.put_run(1, (1, 2)), 2, "more"), (lambda: bench.turn(), 2, "same"),
                 (lambda: bench.put_run(0, (2, 2)), 3, "more"), (lambda: bench.drop_run(0), 2, "fewer"),
                 (lambda: bench.undo(), 3, "more"), (lambda: bench.undo(), 2, "fewer"),
                 (lambda: bench.undo(), 2, "same"), (lambda: bench.undo(), 1, "fewer")]
        self.assertEqual(bench.fewest(), 1)
        for step, number, news in steps:
            step()
            self.assertEqual((bench.fewest(), bench.news), (number, news))
        self.assert_raises(bench, NothingToUndo, {}, bench.undo)
        self.assertEqual(bench.news, "fewer")

    def test_great_lengths(self):
        bench = Bench(GREAT)
        self.assertEqual(bench.fewest(), 3)
        bench.set_run(4, (2, LONG))
        self.assertEqual(bench.string.totals, (LONG, 2 * LONG, 2 * LONG, LONG))
        self.assertEqual(bench.fewest(), fewest(bench.string, even(bench.string, 2)))

    def test_any_edits_against_strings_alone(self):
        pick = random.Random(13)
        names = {-1: "fewer", 0: "same", 1: "more"}
        bench, runs, past, news = Bench(SAMPLE), SAMPLE.runs, [], "same"
        for _ in range(1500):
            what = pick.randrange(5)
            number, run = pick.randrange(7), (pick.randrange(4), pick.choice((1, 2, 2, 4, 6, LONG)))
            last = len(runs) - 1
            edits = [
                (bench.set_run, (number, run), runs[:number] + (run,) + runs[number + 1:], number <= last),
                (bench.put_run, (number, run), runs[:number] + (run,) + runs[number:], number <= last + 1),
                (bench.drop_run, (number,), runs[:number] + runs[number + 1:], number <= last),
                (bench.turn, (), runs[::-1], True)]
            if what == 4:
                if not past:
                    self.assert_raises(bench, NothingToUndo, {}, bench.undo)
                    continue
                before, runs = runs, past.pop()
                self.assertEqual(bench.undo(), len(past))
            else:
                call, given, behind, is_run = edits[what]
                error = wrong(past, is_run, number, behind)
                if error is not None:
                    self.assert_raises(bench, *error, call, *given)
                    continue
                past.append(runs)
                before, runs = runs, behind
                self.assertEqual(call(*given), len(past))
            numbers = [fewest(String(row), even(String(row), 2)) for row in (before, runs)]
            news = names[(numbers[1] > numbers[0]) - (numbers[1] < numbers[0])]
            self.assert_stand(bench, runs, len(past), news)


def wrong(past, is_run, number, runs):
    """Return the error that an edit raises, with its fields, or None."""
    if len(past) == 20:
        return Full, {}
    if not is_run:
        return NoRun, {"number": number}
    try:
        even(String(runs), 2)
    except (BadString, Odd) as error:
        return type(error), vars(error)
    return None


class TriedTest(BenchCase):
    def test_what_function_returns(self):
        bench = Bench(SAMPLE)
        for value in (None, 5, (1,), bench, [SAMPLE]):
            self.assertIs(bench.tried(lambda other: value), value)
        self.assertIs(bench.tried(function=lambda other: other), bench)

    def test_edits_are_put_back(self):
        bench = Bench(SAMPLE)
        bench.put_run(4, (2, 2))

        def function(other):
            self.assertIs(other, bench)
            self.assert_stand(other, SAMPLE.runs + ((2, 2),), 1, "more")
            return other.turn(), other.drop_run(0), other.news, other.turn()
        self.assertEqual(bench.tried(function), (2, 3, "fewer", 4))
        self.assert_stand(bench, SAMPLE.runs + ((2, 2),), 1, "more")
        self.assertEqual(bench.undo(), 0)
        self.assert_stand(bench, SAMPLE.runs, 0, "fewer")

    def test_edits_made_before_are_undone(self):
        bench = Bench(SAMPLE)
        bench.put_run(4, (2, 2))
        bench.turn()

        def function(other):
            other.undo()
            other.undo()
            other.put_run(0, (3, 2))
            return other.string.runs
        self.assertEqual(bench.tried(function), ((3, 2),) + SAMPLE.runs)
        self.assert_stand(bench, ((2, 2),) + SAMPLE.runs[::-1], 2, "same")
        self.assertEqual((bench.undo(), bench.string.runs), (1, SAMPLE.runs + ((2, 2),)))
        self.assertEqual((bench.undo(), bench.string.runs), (0, SAMPLE.runs))

    def test_errors_go_on(self):
        bench = Bench(SAMPLE)
        bench.put_run(4, (2, 2))
        errors = [Full(), NoRun(3), BadTakers([1]), ZeroDivisionError("0"), KeyError("a"), ValueError(),
                  KeyboardInterrupt(), StopIteration()]
        for error in errors:
            def function(other):
                other.undo()
                other.turn()
                raise error
            with self.assertRaises(type(error)) as caught:
                bench.tried(function)
            self.assertIs(caught.exception, error)
            self.assert_stand(bench, SAMPLE.runs + ((2, 2),), 1, "more")

    def test_errors_of_the_bench_itself_go_on(self):
        bench = Bench(SAMPLE)
        for function, error in ((lambda other: other.undo(), NothingToUndo),
                                (lambda other: [other.turn() for _ in range(21)], Full),
                                (lambda other: (other.turn(), other.set_run(0, (1, 5))), Odd)):
            with self.assertRaises(error):
                bench.tried(function)
            self.assert_stand(bench, SAMPLE.runs, 0, "same")

    def test_twenty_edits_within(self):
        bench = Bench(SAMPLE)
        self.assertEqual(bench.tried(lambda other: [other.turn() for _ in range(20)])[-1], 20)
        self.assertEqual(bench.turn(), 1)

    def test_tried_within_tried(self):
        bench = Bench(SINGLE)
        bench.put_run(1, (1, 2))
        seen = []

        def inner(other):
            other.undo()
            seen.append((other.string.runs, other.version, other.news))
            raise NoRun(7)

        def outer(other):
            other.put_run(2, (2, 2))
            with self.assertRaises(NoRun):
                other.tried(inner)
            seen.append((other.string.runs, other.version, other.news))
            other.drop_run(0)
            seen.append((other.string.runs, other.version, other.news))
            return other.tried(lambda again: again.undo())
        self.assertEqual(bench.tried(outer), 2)
        self.assertEqual(seen, [(DOUBLE.runs, 1, "fewer"), (TRIPLE.runs, 2, "more"),
                                (TRIPLE.runs[1:], 3, "fewer")])
        self.assert_stand(bench, DOUBLE.runs, 1, "more")

    def test_other_objects_stay_as_function_left_them(self):
        bench, other_bench = Bench(SAMPLE), Bench(ONE)
        desk, other_desk = Desk(bench), Desk(other_bench)
        kept = []

        def function(tried):
            kept.append(tried.turn())
            other_bench.turn()
            return desk.say("turn"), other_desk.say("turn"), desk.say("text")
        self.assertEqual(bench.tried(function), ("ok 2", "ok 2", "4a 2b 2a 4b"))
        self.assert_stand(bench, SAMPLE.runs, 0, "same")
        self.assert_stand(other_bench, ONE.runs, 2, "same")
        self.assertEqual(kept, [1])
        self.assertEqual(desk.history, (("turn", "ok 2"), ("text", "4a 2b 2a 4b")))
        self.assertEqual(other_desk.history, (("turn", "ok 2"),))

    def test_another_bench_tried_within(self):
        bench, other = Bench(SAMPLE), Bench(ONE)

        def function(tried):
            tried.turn()
            return other.tried(lambda inner: (tried.turn(), inner.turn(), inner.turn()))
        self.assertEqual(bench.tried(function), (2, 1, 2))
        self.assertEqual((bench.version, other.version), (0, 0))

    def test_news_behind_a_tried(self):
        bench = Bench(DOUBLE)
        bench.drop_run(0)
        bench.tried(lambda other: other.undo())
        self.assertEqual(bench.news, "fewer")
        bench.tried(lambda other: None)
        self.assertEqual(bench.news, "fewer")


class SignsTest(BenchCase):
    def test_equal(self):
        bench, other = Bench(SAMPLE), Bench(String(SAMPLE.runs))
        self.assertIs(bench == other, True)
        self.assertIs(bench != other, False)
        bench.turn()
        self.assertIs(bench == other, False)
        self.assertIs(bench != other, True)
        bench.turn()
        # The string alone counts, not the edits.
        self.assertIs(bench == other, True)
        for value in [*NOTHING_RIGHT, SAMPLE, SAMPLE.runs, Desk(bench), str(bench)]:
            self.assertIs(bench == value, False)
            self.assertIs(value == bench, False)
            self.assertIs(bench != value, True)

    def test_str(self):
        bench = Bench(SAMPLE)
        for version in range(1, 13):
            bench.turn()
            self.assertEqual(str(bench), f"bench at version {version}")

    def test_runs_by_their_numbers(self):
        bench = Bench(SAMPLE)
        self.assertEqual([bench[number] for number in range(4)], list(SAMPLE.runs))
        bench[3] = (2, LONG)
        self.assertEqual((bench[3], bench.version, bench.news), ((2, LONG), 1, "more"))
        bench[0] = (0, 4)
        self.assert_stand(bench, ((0, 4), (1, 2), (0, 2), (2, LONG)), 2, "same")
        self.assertEqual(bench.undo(), 1)

    def test_it_is_not_walked_over(self):
        with self.assertRaises(TypeError):
            iter(Bench(SAMPLE))


if __name__ == "__main__":
    unittest.main()
