"""Other tellings of ways through deeds and stories, for the tests: step by step along the charts.

What is refused is told as a pair: the refusal's name and its number.
"""

import re
from fractions import Fraction

from dueworth.charts import chart
from dueworth.errors import Stuck, TooLong
from samples import oftens_in, pair, sides_of


def outcome(ask, *things):
    """What a function tells, or its refusal."""
    try:
        return ask(*things)
    except Stuck as stuck:
        return ("Stuck", stuck.row)
    except TooLong as too_long:
        return ("TooLong", too_long.most)


def written(thing):
    """A thing of tuples, texts and numbers, each in a tuple with a comma behind it."""
    if isinstance(thing, tuple):
        return "(" + "".join(written(one) + "," for one in thing) + ")"
    return repr(thing)


def trace_pattern(body):
    """The pattern of a body's traces, as they are written."""
    if body[0] == "then":
        return rf"\({trace_pattern(body[1])},{trace_pattern(body[2])},\)"
    if body[0] in ("either", "take"):
        return rf"\((?:0,{trace_pattern(body[-2])},|1,{trace_pattern(body[-1])},)\)"
    if body[0] == "often":
        return rf"\((?:\([1-9][0-9]*,{trace_pattern(body[1])},\),)*\)"
    return r"\(\)"


def story_pattern(house, deep):
    """The pattern of a house's stories with at most so many parts within one another."""
    if deep == 0:
        return r"\(\)"
    deeds = [rf"\('do',{d},{trace_pattern(deed[1])},\)," for d, deed in enumerate(house[1])]
    again = rf"\('again',[1-9][0-9]*,(?!\(\)){story_pattern(house, deep - 1)},\),"
    return rf"\((?:{'|'.join(deeds)}|{again})*\)"


def matches(pattern, thing):
    return re.fullmatch(pattern, written(thing)) is not None


def choices(body, trace):
    """The choices of a trace as they are made: 0 to the row told first, 1 to the row told behind it."""
    if body[0] == "then":
        yield from choices(body[1], trace[0])
        yield from choices(body[2], trace[1])
    elif body[0] in ("either", "take"):
        yield trace[0]
        yield from choices(body[-2 + trace[0]], trace[1])
    elif body[0] == "often":
        for many, inner in trace:
            for number in range(many):
                yield 0
                yield from choices(body[1], inner)
        yield 1


class Way:
    """A way along the chart of a house's deed by a trace: at a row, with jars and cost."""

    def __init__(self, house, jars, d, trace):
        self.rows = chart(house[1][d][1])
        self.names = house[0]
        self.jars = list(jars)
        self.cost = Fraction(0)
        self.row = 0
        self.chosen = choices(house[1][d][1], trace)

    def at_end(self):
        return self.rows[self.row] == ("end",)

    def step(self):
        """What is done at the row is done, and one goes on; False where it is stuck."""
        row = self.rows[self.row]
        if row[0] in ("pay", "put"):
            if row[0] == "pay":
                self.cost += Fraction(*row[1])
            else:
                self.jars[self.names.index(row[1])] += row[2]
            self.row = row[-1]
            return True
        side = next(self.chosen)
        if row[0] == "take" and side == 0:
            place = self.names.index(row[1])
            if self.jars[place] < row[2]:
                return False
            self.jars[place] -= row[2]
        self.row = row[-2 + side]
        return True


def walked(house, jars, d, trace, most):
    """What `done` is to tell, walked along the chart."""
    way = Way(house, jars, d, trace)
    seen = []
    while True:
        if len(seen) == most:
            return ("TooLong", most)
        seen.append((way.row, tuple(way.jars), pair(way.cost)))
        if way.at_end():
            assert list(way.chosen) == []
            return seen
        if not way.step():
            return ("Stuck", way.row)


def doings(story):
    """The doings (d, trace) of a story, one by one."""
    for head, number, inner in story:
        if head == "do":
            yield number, inner
        else:
            for again in range(number):
                yield from doings(inner)


def told_by_doings(house, jars, story, most):
    """What `told` is to tell, each doing walked along its chart."""
    found = []
    cost = Fraction(0)
    for number, (d, trace) in enumerate(doings(story)):
        if number == most:
            return ("TooLong", most)
        way = Way(house, jars, d, trace)
        while not way.at_end():
            if not way.step():
                return ("Stuck", number)
        jars = tuple(way.jars)
        cost += way.cost
        found.append((d, jars, pair(cost)))
    return found


def one_less(jars):
    """The same counts with one thing less of one jar, for each jar that holds some."""
    for place, count in enumerate(jars):
        if count > 0:
            yield jars[:place] + (count - 1,) + jars[place + 1:]


def moved_by(house, d, trace):
    """The numbers of the jars out of which a trace takes, and of those into which it puts."""
    taken, brought = set(), set()
    way = Way(house, (10 ** 9,) * len(house[0]), d, trace)
    while not way.at_end():
        before = list(way.jars)
        way.step()
        for jar, count in enumerate(before):
            if way.jars[jar] != count:
                (taken if way.jars[jar] < count else brought).add(jar)
    return taken, brought


def onward(house, rows, state, most):
    """The states (d, row, jars) that come behind one; a jar is told to hold no more than `most` things."""
    d, number, jars = state
    row = rows[d][number]
    if row == ("end",):
        return [(other, 0, jars) for other in range(len(rows))]
    if row[0] not in ("put", "take"):
        return [(d, there, jars) for there in row[1:] if isinstance(there, int)]
    place = house[0].index(row[1])
    if row[0] == "put":
        return [(d, row[3], jars[:place] + (min(most, jars[place] + row[2]),) + jars[place + 1:])]
    states = [(d, row[4], jars)]
    if jars[place] >= row[2]:
        states.append((d, row[3], jars[:place] + (jars[place] - row[2],) + jars[place + 1:]))
    return states


def explored(house, most):
    """The jars filled and the rows come to by stories from empty jars, found by going all ways there are.

    Told are a set of jars' numbers and a set of (d, row).
    """
    rows = [chart(deed[1]) for deed in house[1]]
    waiting = [(d, 0, (0,) * len(house[0])) for d in range(len(rows))]
    seen = set(waiting)
    while waiting:
        state = waiting.pop()
        for other in onward(house, rows, state, most):
            if other not in seen:
                seen.add(other)
                waiting.append(other)
    filled = {jar for state in seen for jar, count in enumerate(state[2]) if count > 0}
    return filled, {state[:2] for state in seen}


def numbered_within(body, first):
    """The sides of a body, each with the number that its first often has where its own has `first`."""
    first += 1 if body[0] == "often" else 0
    for side in sides_of(body):
        yield side, first
        first += len(oftens_in(side))


def taken_apart(body, trace, first=0):
    """A trace without its goings, and a list of (number, many, t): each going's often, how often, and it without goings.

    The oftens of the body are numbered from `first` on.
    """
    sides = list(numbered_within(body, first))
    if body[0] == "then":
        parts = [taken_apart(side, inner, number) for (side, number), inner in zip(sides, trace)]
        return tuple(part[0] for part in parts), parts[0][1] + parts[1][1]
    if body[0] in ("either", "take"):
        side, number = sides[trace[0]]
        inner, goings = taken_apart(side, trace[1], number)
        return (trace[0], inner), goings
    goings = []
    if body[0] == "often":
        for many, going in trace:
            inner, within = taken_apart(body[1], going, first + 1)
            goings.append((first, many, inner))
            goings.extend((number, many * times, one) for number, times, one in within)
    return (), goings
