"""Desks: lines said to a bench, and the answers."""

from beadshares.cutting import deal
from beadshares.errors import BadString, Full, NoRun, NothingToUndo, Odd
from beadshares.nearness import windows
from beadshares.texts import dealing_text, is_number, run_of, string_text, words_of
from beadshares.wishes import even

MOST_PAIRS = 10


def edit_with_run(bench, words):
    """Do the edit that three words tell and return the new version, or None."""
    name, number, word = words
    run = run_of(word)
    if run is None or not is_number(number, 1):
        return None
    if name == "run":
        return bench.set_run(int(number), run)
    if name == "put":
        return bench.put_run(int(number), run)
    return None


def edit(bench, words):
    """Do the edit or the undo that words tell and return the new version, or None."""
    if words == ["turn"]:
        return bench.turn()
    if words == ["undo"]:
        return bench.undo()
    if len(words) == 2 and words[0] == "drop" and is_number(words[1], 1):
        return bench.drop_run(int(words[1]))
    return edit_with_run(bench, words) if len(words) == 3 else None


def told(bench, words):
    """Return the answer to words that ask for something, or None."""
    string = bench.string
    if words == ["fewest"]:
        return str(bench.fewest())
    if words == ["deal"]:
        return dealing_text(deal(string, even(string, 2)))
    if words == ["windows"]:
        return str(len(windows(string)))
    if words == ["text"]:
        return string_text(string)
    return None


def answer(bench, words):
    """Return the answer to the words of a line; errors go on."""
    version = edit(bench, words)
    if version is not None:
        return f"ok {version}"
    found = told(bench, words)
    return "what" if found is None else found


def answer_or_error(bench, words):
    """Return the answer to the words of a line, or the name of the error."""
    try:
        return answer(bench, words)
    except BadString:
        return "no BadString"
    except Full:
        return "no Full"
    except NoRun:
        return "no NoRun"
    except NothingToUndo:
        return "no NothingToUndo"
    except Odd:
        return "no Odd"


class Desk:
    """Answers lines and works on a bench, which others may edit as well."""

    def __init__(self, bench):
        self.own_bench = bench
        self.own_history = ()

    def say(self, line):
        """Return the answer to a line."""
        known = line if isinstance(line, str) else None
        found = "what" if known is None else answer_or_error(self.own_bench, words_of(known))
        self.own_history = (self.own_history + ((known, found),))[-MOST_PAIRS:]
        return found

    @property
    def history(self):
        """The last ten pairs of a line and its answer."""
        return self.own_history
