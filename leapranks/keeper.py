"""A keeper: keeps a web and a lot of it while ties and leaps change and places are pushed."""

from leapranks.changes import changed, with_leaps
from leapranks.ends import ends_of
from leapranks.errors import NoBack
from leapranks.keptlots import lot_changed, lot_with_leaps
from leapranks.lots import begun
from leapranks.pushes import push
from leapranks.rankings import surely_ahead
from leapranks.sweeps import end_of


class Keeper:
    """Keeps a web and a lot, at first begun, and how both were ahead of each deed.

    Each deed tells the rising tuple of the places whose rest is another one behind it.
    """

    def __init__(self, web, grains):
        self.now = (web, begun(web, grains))
        self.past = []

    def tie(self, change):
        """A tie is set by a change."""
        web, lot = self.now
        return self.done(changed(web, change), lot_changed(web, lot, change))

    def leap(self, leaps):
        """The leaps are changed."""
        web, lot = self.now
        return self.done(with_leaps(web, leaps), lot_with_leaps(web, lot, leaps))

    def push(self, a, many):
        """The place a is pushed by many."""
        web, lot = self.now
        return self.done(web, push(web, lot, a, many))

    def settle(self):
        """All is pushed to an end."""
        web, lot = self.now
        return self.done(web, end_of(web, lot))

    def back(self):
        """The last deed not yet taken back is taken back."""
        if not self.past:
            raise NoBack("no deed to take back")
        return self.moved_to(self.past.pop())

    def web(self):
        """The web as it is now."""
        return self.now[0]

    def lot(self):
        """The lot as it is now."""
        return self.now[1]

    def ends(self, a):
        """The ends between which the share of the place a lies."""
        web, lot = self.now
        return ends_of(web, lot, a)

    def ahead(self):
        """Which places are surely ahead of which, a rising list."""
        web, lot = self.now
        return surely_ahead(web, lot)

    def done(self, web, lot):
        """Keeps what a deed led to, and what was ahead of it."""
        self.past.append(self.now)
        return self.moved_to((web, lot))

    def moved_to(self, goal):
        """Makes another web and lot the kept ones; tells the places whose rest is another one."""
        old_rest = self.now[1][2]
        new_rest = goal[1][2]
        self.now = goal
        return tuple(a for a, number in enumerate(new_rest) if number != old_rest[a])
