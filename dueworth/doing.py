"""Doings: what one comes to, row by row."""

from dueworth.charts import rows_in
from dueworth.errors import Stuck, TooLong
from dueworth.fractions import plus
from dueworth.tallies import added, things_of
from dueworth.traces import chosen


class Doing:
    """One doing of a body: what was come to, what the jars hold, and all cost so far."""

    def __init__(self, names, jars, most):
        self.names = names
        self.jars = jars
        self.most = most
        self.cost = (0, 1)
        self.seen = []

    def come_to(self, row):
        """One comes to a row, or TooLong."""
        if len(self.seen) >= self.most:
            raise TooLong(self.most)
        self.seen.append((row, self.jars, self.cost))

    def pay(self, cost):
        """A cost is paid."""
        self.cost = plus(self.cost, cost)

    def bring(self, name, things):
        """Things come into a jar."""
        self.jars = added(self.jars, things_of(self.names, name, things))

    def take(self, name, things, row):
        """Things are taken out of a jar at a row, or Stuck."""
        if self.jars[self.names.index(name)] < things:
            raise Stuck(row)
        self.bring(name, -things)


def go_often(doing, body, goings, row):
    """An often is gone by some goings; one comes to its row ahead of each time and once more."""
    doing.come_to(row)
    for going in goings:
        for number in range(going[0]):
            go(doing, body[1], going[1], row + 1)
            doing.come_to(row)


def go_choice(doing, body, trace, row):
    """An either or a take is gone by the side that a trace chooses."""
    doing.come_to(row)
    if body[0] == "take" and trace[0] == 0:
        doing.take(body[1], body[2], row)
    first = row + 1 if trace[0] == 0 else row + 1 + rows_in(body[-2])
    go(doing, chosen(body, trace), trace[1], first)


def go_step(doing, body, row):
    """A pay, a put or a use is done."""
    doing.come_to(row)
    if body[0] == "pay":
        doing.pay(body[1])
    if body[0] == "put":
        doing.bring(body[1], body[2])


def go(doing, body, trace, row):
    """A body, its rows numbered from `row` on, is gone by a trace."""
    head = body[0]
    if head == "then":
        go(doing, body[1], trace[0], row)
        go(doing, body[2], trace[1], row + rows_in(body[1]))
    elif head == "often":
        go_often(doing, body, trace, row)
    elif head in ("either", "take"):
        go_choice(doing, body, trace, row)
    elif head != "rest":
        go_step(doing, body, row)


def done(house, jars, d, trace, most):
    """What one comes to, a list of (row, jars, cost), where a deed is done by a trace; or Stuck, TooLong."""
    body = house[1][d][1]
    doing = Doing(house[0], jars, most)
    go(doing, body, trace, 0)
    doing.come_to(rows_in(body))
    return doing.seen
