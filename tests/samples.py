"""Values that several tests use."""

from beadshares.errors import Full, NoRun
from beadshares.strings import String

SAMPLE = String(((0, 4), (1, 2), (0, 2), (1, 4)))


def nested(depth):
    """Return tuples nested so deep."""
    value = ()
    for _ in range(depth - 1):
        value = (value,)
    return value


# None of these is a place of a string or the number of a run, a run, or the runs
# of a string.
NOTHING_RIGHT = [
    None, True, False, -1, -10 ** 60, 10 ** 60 - 1,
    "", "0", "1", "runs", "a" * 2000, "\n",
    (), (0,), (True,), (None, None), ((),), nested(12),
    [], [0], [0, 4], [[0, 4]], [(0, 4)],
    {}, {0: 4}, {0: (0, 4)}, {"number": 0},
    SAMPLE, (SAMPLE,), [SAMPLE], {"string": SAMPLE},
    Full(), NoRun(0),
]


def only_tuples(value):
    """Tell whether value holds no list or dict, and nothing but plain values."""
    if type(value) is tuple:
        return all(only_tuples(part) for part in value)
    return value is None or type(value) in (int, str, bool)


LONG = 10 ** 30

# Six runs of the greatest length.
GREAT = String(((0, LONG), (1, LONG), (2, LONG), (3, LONG), (0, LONG), (1, LONG)))
GREAT_TWO = String(((0, LONG), (1, LONG)) * 3)


def spoilt(value):
    """Return copies of a tuple, each with one part that is of a wrong kind or missing.

    The part is replaced by a list, a bool or a string, is left out or put in twice.
    """
    found = [list(value), None, dict(enumerate(value)), value + (None,), value + (SAMPLE,)]
    for at, part in enumerate(value):
        others = spoilt(part) if isinstance(part, tuple) else [
            True, False, str(part), None, (part,), [part], SAMPLE, -1]
        found += [value[:at] + (other,) + value[at + 1:] for other in others]
        found += [value[:at] + value[at + 1:], value[:at] + (part,) + value[at:]]
    return found
