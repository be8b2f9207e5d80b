"""The errors of the package.

Each keeps the arguments that it is made with as fields, as they are.
"""


class ShareError(ValueError):
    """What cannot be shared, read or edited as asked."""


class BadDealing(ShareError):
    """A text tells what is no dealing."""

    def __init__(self, word):
        self.word = word


class BadRing(ShareError):
    """A value is no ring dealing."""


class BadString(ShareError):
    """Runs are not those of a string."""

    def __init__(self, number, word):
        self.number = number
        self.word = word


class BadTakers(ShareError):
    """There cannot be so many takers."""

    def __init__(self, many):
        self.many = many


class BadText(ShareError):
    """A word of a text is not right."""

    def __init__(self, number):
        self.number = number


class BadWeights(ShareError):
    """A value is no tuple of weights."""

    def __init__(self, weights):
        self.weights = weights


class Full(ShareError):
    """A bench takes no more edits."""


class NoBack(ShareError):
    """A walker cannot take so many choices back."""

    def __init__(self, many):
        self.many = many


class NoChoice(ShareError):
    """A walker does not have this choice."""

    def __init__(self, choice):
        self.choice = choice


class NoDealing(ShareError):
    """No dealing of the string has so many cuts."""

    def __init__(self, cuts):
        self.cuts = cuts


class NothingToUndo(ShareError):
    """No edit of a bench is in effect."""


class Odd(ShareError):
    """The beads of a kind cannot be shared so."""

    def __init__(self, kind):
        self.kind = kind


class NoPlace(LookupError):
    """A value is no place of the string, or lies ahead of the first one."""

    def __init__(self, value):
        self.value = value


class NoRun(LookupError):
    """No run has this number."""

    def __init__(self, number):
        self.number = number
