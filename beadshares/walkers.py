"""Walkers: they go along the layouts of possible, cut by cut."""

from beadshares.checks import is_integer, is_whole
from beadshares.cutting import possible
from beadshares.errors import NoBack, NoChoice


def choices_of(layout):
    """Return the choices that lead to a layout, one for each piece."""
    places, takers = layout
    later = [(number, taker) for number, taker in zip(places, takers[1:])]
    return (takers[:1], *later)


def is_choice(choices, value):
    """Tell whether value is one of these choices."""
    # True equals 1 to Python, so the items are looked at first.
    if not isinstance(value, tuple) or not all([is_integer(item) for item in value]):
        return False
    return value in choices


class Walker:
    """A layout that grows by choices, each of which leads on to one of possible."""

    def __init__(self, string, wish, cuts):
        self.own_string = string
        self.own_wish = wish
        self.own_cuts = cuts
        self.own_routes = tuple([choices_of(layout) for layout in possible(string, wish, cuts)])
        self.own_made = ()

    @property
    def layout(self):
        """The numbers of runs and the takers so far."""
        places = tuple([choice[0] for choice in self.own_made[1:]])
        return places, tuple([choice[-1] for choice in self.own_made])

    @property
    def choices(self):
        """The next choices that lead on to one of possible, ascending."""
        at = len(self.own_made)
        return tuple(sorted({route[at] for route in self.own_routes
                             if len(route) > at and route[:at] == self.own_made}))

    def __call__(self, choice):
        """Make a choice."""
        if not is_choice(self.choices, choice):
            raise NoChoice(choice)
        self.own_made = self.own_made + (choice,)

    def back(self, many=1):
        """Take the last choices back and return the layout left."""
        made = self.own_made
        if not is_whole(many, 1, len(made)):
            raise NoBack(many)
        self.own_made = made[:len(made) - many]
        return self.layout

    def twin(self):
        """Return another walker that stands alike and goes by itself."""
        # What is possible is known, so the twin is made without looking for it again.
        other = Walker(self.own_string, self.own_wish, 0)
        other.own_cuts = self.own_cuts
        other.own_routes = self.own_routes
        other.own_made = self.own_made
        return other

    def __len__(self):
        return len(self.own_made)

    def __eq__(self, other):
        if not isinstance(other, Walker) or self.own_string != other.own_string:
            return False
        if self.own_wish != other.own_wish or self.own_cuts != other.own_cuts:
            return False
        return self.own_made == other.own_made
