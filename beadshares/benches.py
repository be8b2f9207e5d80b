"""Benches: a string that two takers can share alike, under edits."""

from beadshares.bounds import MAX_EDITS
from beadshares.checks import is_whole
from beadshares.cutting import fewest
from beadshares.errors import Full, NoRun, NothingToUndo
from beadshares.strings import String
from beadshares.wishes import even


def stand_of(string):
    """Return a string and how few cuts it needs; raise Odd if it cannot be shared alike."""
    return string, fewest(string, even(string, 2))


def news_of(ahead, behind):
    """Return how a number has changed."""
    if behind < ahead:
        return "fewer"
    return "same" if behind == ahead else "more"


class Bench:
    """A string that two takers can share alike, with the edits that are in effect."""

    def __init__(self, string):
        # The stands of all versions; a tuple, so that tried can put them back as one value.
        self.own_stands = (stand_of(string),)
        self.own_news = "same"

    @property
    def string(self):
        """The string as it is now."""
        return self.own_stands[-1][0]

    @property
    def version(self):
        """How many edits are in effect."""
        return len(self.own_stands) - 1

    @property
    def news(self):
        """How the number of cuts has changed with the last edit or undo."""
        return self.own_news

    def fewest(self):
        """Return with how few cuts two takers can share the string alike."""
        return self.own_stands[-1][1]

    def check_room(self):
        """Raise Full if no more edits can be in effect."""
        if self.version >= MAX_EDITS:
            raise Full()

    def take(self, stands):
        """Take over the stands of all versions and return the new version."""
        self.own_news = news_of(self.own_stands[-1][1], stands[-1][1])
        self.own_stands = stands
        return self.version

    def put_string(self, string):
        """Do an edit that leads to a string and return the new version."""
        return self.take(self.own_stands + (stand_of(string),))

    def set_run(self, number, run):
        """Put another run there and return the new version."""
        self.check_room()
        return self.put_string(self.string.with_run(number, run))

    def put_run(self, number, run):
        """Put a run more ahead of the one with this number and return the new version."""
        self.check_room()
        runs = self.string.runs
        if not is_whole(number, 0, len(runs)):
            raise NoRun(number)
        return self.put_string(String(runs[:number] + (run,) + runs[number:]))

    def drop_run(self, number):
        """Take the run with this number away and return the new version."""
        self.check_room()
        runs = self.string.runs
        if not is_whole(number, 0, len(runs) - 1):
            raise NoRun(number)
        return self.put_string(String(runs[:number] + runs[number + 1:]))

    def turn(self):
        """Turn the string and return the new version."""
        self.check_room()
        return self.put_string(self.string.turned())

    def undo(self):
        """Take the last edit in effect back and return the new version."""
        if self.version == 0:
            raise NothingToUndo()
        return self.take(self.own_stands[:-1])

    def tried(self, function):
        """Return what function returns for the bench, which then stands as it was before."""
        stands, news = self.own_stands, self.own_news
        try:
            return function(self)
        finally:
            self.own_stands, self.own_news = stands, news

    def __getitem__(self, at):
        return self.string[at]

    def __setitem__(self, at, worth):
        self.set_run(at, worth)

    def __iter__(self):
        raise TypeError("a bench is not walked over")

    def __eq__(self, other):
        return isinstance(other, Bench) and self.string == other.string

    def __str__(self):
        return f"bench at version {self.version}"
