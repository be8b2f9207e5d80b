"""Values that several tests use."""

from beadshares.errors import Full, NoRun
from beadshares.strings import String

SAMPLE = String(((0, 4), (1, 2), (0, 2), (1, 4)))


def nested(depth):
    """Return tuples nested so deep."""
    value = ()
    for _ in range(depth - 1):
        value = (value,)
    return value


# None of these is a place of a string or the number of a run, a run, or the runs
# of a string.
NOTHING_RIGHT = [
    None, True, False, -1, -10 ** 60, 10 ** 60 - 1,
    "", "0", "1", "runs", "a" * 2000, "\n",
    (), (0,), (True,), (None, None), ((),), nested(12),
    [], [0], [0, 4], [[0, 4]], [(0, 4)],
    {}, {0: 4}, {0: (0, 4)}, {"number": 0},
    SAMPLE, (SAMPLE,), [SAMPLE], {"string": SAMPLE},
    Full(), NoRun(0),
]


def only_tuples(value):
    """Tell whether value holds no list or dict, and nothing but plain values."""
    if type(value) is tuple:
        return all(only_tuples(part) for part in value)
    return value is None or type(value) in (int, str, bool)
