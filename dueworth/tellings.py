"""Tellings: stories told doing by doing."""

from dueworth.errors import Stuck, TooLong
from dueworth.fractions import plus
from dueworth.tallies import added, tally


class Telling:
    """A story as far as it is told: its doings, what the jars hold, and all cost so far."""

    def __init__(self, jars, most):
        self.jars = jars
        self.most = most
        self.cost = (0, 1)
        self.doings = []

    def do(self, d, found):
        """A deed is done whose doing has this tally, or Stuck, TooLong."""
        if len(self.doings) >= self.most:
            raise TooLong(self.most)
        if any([count < asked for count, asked in zip(self.jars, found[2])]):
            raise Stuck(len(self.doings))
        self.jars = added(self.jars, found[1])
        self.cost = plus(self.cost, found[0])
        self.doings.append((d, self.jars, self.cost))


def with_tallies(house, story):
    """A story with the tally of each trace in the trace's place."""
    found = []
    for part in story:
        if part[0] == "do":
            found.append(("do", part[1], tally(house, part[1], part[2])))
        else:
            found.append(("again", part[1], with_tallies(house, part[2])))
    return found


def tell(telling, story):
    """A story with tallies is told on."""
    for part in story:
        if part[0] == "do":
            telling.do(part[1], part[2])
        else:
            for number in range(part[1]):
                tell(telling, part[2])


def told(house, jars, story, most):
    """A list of (d, jars, cost) behind each doing of a story; or Stuck, TooLong."""
    telling = Telling(jars, most)
    # Each trace is tallied once, however often its deed is done again.
    tell(telling, with_tallies(house, story))
    return telling.doings
