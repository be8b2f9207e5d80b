"""Texts of strings and of dealings."""

from beadshares.bounds import MAX_LENGTH, MAX_RUNS
from beadshares.checks import is_whole
from beadshares.dealings import dealing_error
from beadshares.errors import BadDealing, BadText
from beadshares.strings import String

DIGITS = "0123456789"
LETTERS = "abcd"
MOST_LENGTH_DIGITS = 31
MOST_CUT_DIGITS = 32


def words_of(text):
    """Return the words of a text."""
    # Blanks alone part words: split() would take a line feed for one, too.
    return [word for word in text.split(" ") if word != ""]


def is_number(word, most):
    """Tell whether a word is at most so many digits, without a nought ahead."""
    if not 1 <= len(word) <= most or not all([sign in DIGITS for sign in word]):
        return False
    return word == "0" or word[0] != "0"


def run_of(word):
    """Return the run that a word tells, or None."""
    digits, letter = word[:-1], word[-1]
    if letter not in LETTERS or not is_number(digits, MOST_LENGTH_DIGITS):
        return None
    length = int(digits)
    if not is_whole(length, 1, MAX_LENGTH):
        return None
    return LETTERS.index(letter), length


def string_text(string):
    """Return the text of a string."""
    return " ".join([f"{length}{LETTERS[kind]}" for kind, length in string.runs])


def read_string(value):
    """Return the string of a text."""
    if not isinstance(value, str):
        raise BadText(None)
    runs = []
    for number, word in enumerate(words_of(value)):
        run = run_of(word)
        if run is None or number == MAX_RUNS:
            raise BadText(number)
        runs.append(run)
    if not runs:
        raise BadText(0)
    return String(tuple(runs))


def dealing_text(dealing):
    """Return the text of a dealing."""
    cuts, takers = dealing
    words = [*cuts, "to", *takers]
    return " ".join([str(word) for word in words])


def read_dealing(string, many, value):
    """Return the dealing of a text."""
    if not isinstance(value, str):
        raise BadText(None)
    words = words_of(value)
    at = words.index("to") if "to" in words else len(words)
    for number, word in enumerate(words):
        most = MOST_CUT_DIGITS if number < at else 1
        if number != at and not is_number(word, most):
            raise BadText(number)
    if at == len(words):
        raise BadText(at)
    dealing = (tuple([int(word) for word in words[:at]]), tuple([int(word) for word in words[at + 1:]]))
    fault = dealing_error(string, many, dealing)
    if fault is not None:
        raise BadDealing(fault)
    return dealing
