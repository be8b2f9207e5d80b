"""Strings of beads, told by their runs."""

from beadshares.bounds import MAX_KINDS, MAX_LENGTH, MAX_RUNS
from beadshares.checks import is_row, is_whole
from beadshares.errors import BadString, NoPlace, NoRun


def run_fault(run):
    """Return the first word of what is wrong with a run by itself, or None."""
    if not is_row(run, 2, 2):
        return "run"
    kind, length = run
    if not is_whole(kind, 0, MAX_KINDS - 1):
        return "kind"
    if not is_whole(length, 1, MAX_LENGTH):
        return "length"
    return None


def check_runs(runs):
    """Raise BadString if runs, any value, are not those of a string."""
    if not is_row(runs, 1, MAX_RUNS):
        raise BadString(None, "runs")
    kind_ahead = None
    for number, run in enumerate(runs):
        word = run_fault(run)
        if word is not None:
            raise BadString(number, word)
        kind = run[0]
        if kind == kind_ahead:
            raise BadString(number, "same")
        kind_ahead = kind


def count_beads(runs, first, last):
    """Return how many beads of each kind lie from place first up to last."""
    found = [0] * MAX_KINDS
    begin = 0
    for kind, length in runs:
        end = begin + length
        found[kind] += max(0, min(end, last) - max(begin, first))
        begin = end
    return tuple(found)


def join_runs(front, behind):
    """Return the runs of both, with a seam of one kind made one run."""
    kind, length = front[-1]
    next_kind, next_length = behind[0]
    if kind != next_kind:
        return front + behind
    return front[:-1] + ((kind, length + next_length),) + behind[1:]


class String:
    """A string of beads; it never changes."""

    def __init__(self, runs):
        check_runs(runs)
        length = sum([run[1] for run in runs])
        totals = count_beads(runs, 0, length)
        self.own_runs = runs
        self.own_length = length
        self.own_totals = totals
        self.own_kinds = tuple([kind for kind in range(MAX_KINDS) if totals[kind] > 0])

    @property
    def runs(self):
        """The runs, as the string was made with them."""
        return self.own_runs

    @property
    def length(self):
        """The number of beads."""
        return self.own_length

    @property
    def totals(self):
        """How many beads of each kind there are."""
        return self.own_totals

    @property
    def kinds(self):
        """The kinds that occur."""
        return self.own_kinds

    def counts(self, first, last):
        """Return how many beads of each kind lie from place first up to last."""
        for value in (first, last):
            if not is_whole(value, 0, self.own_length):
                raise NoPlace(value)
        if last < first:
            raise NoPlace(last)
        return count_beads(self.own_runs, first, last)

    def turned(self):
        """Return the string read from its end."""
        return String(self.own_runs[::-1])

    def with_run(self, number, run):
        """Return the string with another run there."""
        runs = self.own_runs
        if not is_whole(number, 0, len(runs) - 1):
            raise NoRun(number)
        return String(runs[:number] + (run,) + runs[number + 1:])

    def joined(self, other):
        """Return the string of this one and the other one behind it."""
        return String(join_runs(self.own_runs, other.own_runs))

    def __getitem__(self, at):
        if not is_whole(at, 0, len(self.own_runs) - 1):
            raise NoRun(at)
        return self.own_runs[at]

    def __iter__(self):
        raise TypeError("a string is not walked over")

    def __len__(self):
        return len(self.own_runs)

    def __eq__(self, other):
        return isinstance(other, String) and self.own_runs == other.own_runs

    def __str__(self):
        return f"{len(self.own_runs)} runs, {self.own_length} beads"
