"""[22]: desks."""

import random
import unittest

from beadshares.benches import Bench
from beadshares.cutting import deal
from beadshares.desks import Desk
from beadshares.errors import NoRun
from beadshares.nearness import windows
from beadshares.strings import String
from beadshares.texts import dealing_text, string_text
from beadshares.wishes import even
from tests.samples import GREAT, GREAT_TWO, LONG, NOTHING_RIGHT, SAMPLE

ONE = String(((0, 2),))


class DeskCase(unittest.TestCase):
    def assert_says(self, expected, *lines, runs=SAMPLE.runs):
        for line in lines:
            with self.subTest(line=line):
                bench = Bench(String(runs))
                found = Desk(bench).say(line)
                self.assertIs(type(found), str)
                self.assertEqual(found, expected)
                if not expected.startswith("ok"):
                    self.assertEqual((bench.string.runs, bench.version), (runs, 0))


class EditsTest(DeskCase):
    def test_the_document_s_examples(self):
        self.assert_says("3 9 to 0 1 0", "deal")
        self.assert_says("no Odd", "run 0 5a")
        self.assert_says("1", "windows")

    def test_each_edit(self):
        bench = Bench(SAMPLE)
        desk = Desk(bench)
        steps = [("run 2 6a", "ok 1", "4a 2b 6a 4b"), ("put 4 2c", "ok 2", "4a 2b 6a 4b 2c"),
                 ("put 0 8d", "ok 3", "8d 4a 2b 6a 4b 2c"), ("drop 0", "ok 4", "4a 2b 6a 4b 2c"),
                 ("turn", "ok 5", "2c 4b 6a 2b 4a"), ("undo", "ok 4", "4a 2b 6a 4b 2c"),
                 ("undo", "ok 3", "8d 4a 2b 6a 4b 2c"), ("turn", "ok 4", "2c 4b 6a 2b 4a 8d"),
                 (f"run 5 {LONG}d", "ok 5", f"2c 4b 6a 2b 4a {LONG}d")]
        for line, expected, text in steps:
            self.assertEqual(desk.say(line), expected)
            self.assertEqual(string_text(bench.string), text)
            self.assertEqual(desk.say("text"), text)
            self.assertEqual(f"ok {bench.version}", expected)

    def test_by_name(self):
        desk = Desk(bench=Bench(SAMPLE))
        self.assertEqual(desk.say(line="turn"), "ok 1")

    def test_undo_to_the_start(self):
        desk = Desk(Bench(SAMPLE))
        self.assertEqual([desk.say(line) for line in ("turn", "undo", "undo")],
                         ["ok 1", "ok 0", "no NothingToUndo"])

    def test_blanks(self):
        self.assert_says("ok 1", "run 0 6a", "  run   0  6a ", "run 0 6a   ", " turn", "turn ", "put  4 2c ")

    def test_errors(self):
        self.assert_says("no NoRun", "run 4 2a", "run 9 5a", "put 5 2a", "put 9 1c", "drop 4", "drop 9")
        self.assert_says("no BadString", "run 0 4b", "run 1 3a", "put 0 2a", "put 1 2a", "drop 1", "drop 2")
        self.assert_says("no Odd", "run 0 5a", "put 4 1c", "put 0 3d", "run 3 1b", f"run 3 {LONG - 1}b")
        self.assert_says("no NothingToUndo", "undo")
        self.assert_says("no BadString", "put 0 2b", "put 6 2c", runs=GREAT.runs)
        self.assert_says("no BadString", "drop 0", runs=ONE.runs)

    def test_full(self):
        desk = Desk(Bench(SAMPLE))
        for version in range(1, 21):
            self.assertEqual(desk.say("turn"), f"ok {version}")
        for line in ("turn", "run 0 6a", "run 9 6a", "run 0 5a", "put 4 2c", "drop 0", "drop 9", "put 0 2a"):
            self.assertEqual(desk.say(line), "no Full")
        self.assertEqual(desk.say("put 4 2e"), "what")
        self.assertEqual((desk.say("undo"), desk.say("turn"), desk.say("turn")), ("ok 19", "ok 20", "no Full"))


class QuestionsTest(DeskCase):
    def test_answers(self):
        for string in (SAMPLE, ONE, GREAT, GREAT_TWO, String(((0, 2), (1, 2), (2, 2), (3, 2)))):
            wish = even(string, 2)
            dealing = deal(string, wish)
            self.assert_says(str(len(dealing[0])), "fewest", " fewest  ", runs=string.runs)
            self.assert_says(dealing_text(dealing), "deal", runs=string.runs)
            self.assert_says(str(len(windows(string))), "windows", runs=string.runs)
            self.assert_says(string_text(string), "text", "   text", runs=string.runs)

    def test_ordinary_strings(self):
        self.assert_says("2", "fewest")
        self.assert_says("4a 2b 2a 4b", "text")
        self.assert_says("1 to 0 1", "deal", runs=ONE.runs)
        self.assert_says("3", "windows", "windows ", runs=GREAT_TWO.runs)
        self.assert_says("0", "windows", runs=GREAT.runs)


class WhatTest(DeskCase):
    def test_lines_that_are_none(self):
        self.assert_says("what", "", " ", "    ", "what", "ok", "run", "put", "drop", "edit", "Turn", "TURN", "turns",
                         "deals", "window", "texts", "history", "turn.", "turn;undo", "fewest?", "2", "5a")

    def test_one_word_more_or_less(self):
        self.assert_says("what", "run 2", "run 5a", "run 2 6a 1", "run 2 6a turn", "run 2 6 a", "put 2", "put 2c",
                         "put 4 2c 2c", "drop", "drop 0 0", "drop 0 2a", "turn 0", "turn turn", "undo 1", "undo undo",
                         "fewest 2", "deal 2", "windows windows", "text text", "0 run 6a", "0 drop", "2c put 4")

    def test_numbers(self):
        self.assert_says("what", "run 10 2a", "run 00 6a", "run 01 6a", "run -1 6a", "run +0 6a", "run a 6a",
                         "put 10 2c", "put 04 2c", "drop 10", "drop 00", "drop -1", "drop a", "drop 0a", "drop 4.")

    def test_runs(self):
        self.assert_says("what", "run 0 a", "run 0 6", "run 0 6e", "run 0 6A", "run 0 06a", "run 0 0a", "run 0 -6a",
                         "run 0 6a6", "run 0 6aa", f"run 0 {LONG + 1}a", f"run 0 {LONG * 10}a", f"put 4 {LONG + 2}c",
                         "put 4 c2", "put 4 0c", "run 9 0a", "put 9 x", f"run 0 {'1' * 1900}a", "run 0 0x6a")

    def test_line_feeds(self):
        self.assert_says("what", "\n", "turn\n", "\nturn", "run\n0 6a", "run 0\n6a", "run 0 6a\n", "turn \n",
                         "drop 0\n", "drop\n0", "text\n", "fewest\n", "turn\nturn", " \n ")

    def test_values_that_are_no_string(self):
        for value in [*NOTHING_RIGHT, ["turn"], ("turn",), {"turn": 1}, b"turn", Desk(Bench(SAMPLE))]:
            self.assert_says("what", value)


class SharedBenchTest(DeskCase):
    def test_it_works_on_this_very_bench(self):
        bench = Bench(SAMPLE)
        desk = Desk(bench)
        bench.set_run(0, (0, 6))
        self.assertEqual(desk.say("text"), "6a 2b 2a 4b")
        desk.say("turn")
        self.assertEqual((bench.version, bench.string.runs), (2, ((1, 4), (0, 2), (1, 2), (0, 6))))
        bench.undo()
        self.assertEqual(desk.say("turn"), "ok 2")
        self.assertEqual(bench.news, "same")

    def test_two_desks_at_one_bench(self):
        bench = Bench(SAMPLE)
        one, other = Desk(bench), Desk(bench)
        self.assertEqual((one.say("turn"), other.say("turn"), one.say("undo"), other.say("text")),
                         ("ok 1", "ok 2", "ok 1", "4b 2a 2b 4a"))
        self.assertEqual(one.history, (("turn", "ok 1"), ("undo", "ok 1")))
        self.assertEqual(other.history, (("turn", "ok 2"), ("text", "4b 2a 2b 4a")))

    def test_within_a_tried(self):
        bench = Bench(SAMPLE)
        desk = Desk(bench)

        def function(tried):
            desk.say("turn")
            desk.say("drop 9")
            raise NoRun(desk.say("fewest"))
        with self.assertRaises(NoRun) as caught:
            bench.tried(function)
        self.assertEqual(caught.exception.number, "2")
        self.assertEqual(desk.history, (("turn", "ok 1"), ("drop 9", "no NoRun"), ("fewest", "2")))
        self.assertEqual(desk.say("undo"), "no NothingToUndo")


class HistoryTest(DeskCase):
    def test_eleven_lines(self):
        desk = Desk(Bench(SAMPLE))
        self.assertEqual(desk.history, ())
        told = []
        for line in ("turn", "deal", " text ", "what", 5, "undo", "undo", "", "run 0 5a", None, "turn", "fewest"):
            told.append((line if isinstance(line, str) else None, desk.say(line)))
            self.assertEqual(desk.history, tuple(told[-10:]))
            self.assertIs(type(desk.history), tuple)
        self.assertEqual(len(desk.history), 10)
        self.assertEqual(desk.history[0], (" text ", "4b 2a 2b 4a"))

    def test_lines_stand_as_they_were_said(self):
        desk = Desk(Bench(SAMPLE))
        for line in ("  turn  ", "turn\n", "\n", "", [], True, ("turn",), SAMPLE):
            desk.say(line)
        lines = ["  turn  ", "turn\n", "\n", "", None, None, None, None]
        self.assertEqual(desk.history, tuple(zip(lines, ["ok 1"] + ["what"] * 7)))

    def test_a_history_that_was_read_stays(self):
        desk = Desk(Bench(SAMPLE))
        desk.say("turn")
        before = desk.history
        desk.say("turn")
        self.assertEqual(before, (("turn", "ok 1"),))


class AnyLinesTest(DeskCase):
    def test_lines_against_calls(self):
        pick = random.Random(14)
        for _ in range(60):
            bench, other = Bench(SAMPLE), Bench(SAMPLE)
            desk = Desk(bench)
            for _ in range(40):
                number, run = pick.randrange(7), (pick.randrange(4), pick.choice((1, 2, 2, 4, LONG)))
                word = f"{run[1]}{'abcd'[run[0]]}"
                line, call, given = pick.choice([
                    (f"run {number} {word}", other.set_run, (number, run)),
                    (f"put {number} {word}", other.put_run, (number, run)),
                    (f"drop {number}", other.drop_run, (number,)),
                    ("turn", other.turn, ()), ("undo", other.undo, ())])
                try:
                    expected = f"ok {call(*given)}"
                except (ValueError, LookupError) as error:
                    expected = f"no {type(error).__name__}"
                self.assertEqual(desk.say(line), expected)
                self.assertEqual((bench.string.runs, bench.version, bench.news),
                                 (other.string.runs, other.version, other.news))


if __name__ == "__main__":
    unittest.main()
