"""Tallies: what is paid by a trace, what it does to each jar, and how much it asks of each."""

from dueworth.fractions import plus, times
from dueworth.traces import chosen


def things_of(jars, name, things):
    """So many things of the jar of a name, nought of each other one."""
    return tuple([things if jar == name else 0 for jar in jars])


def added(one, other):
    """Two tuples of numbers, added place by place."""
    return tuple([left + right for left, right in zip(one, other)])


def multiplied(one, many):
    """A tuple of numbers, each so many times."""
    return tuple([number * many for number in one])


def no_tally(jars):
    """The tally where nothing is done."""
    return ((0, 1), (0,) * len(jars), (0,) * len(jars))


def behind(one, other):
    """The tally of two tallies' doings, the second behind the first."""
    # What the first brings in the second needn't ask for; what it takes out, the second asks for besides.
    demand = [max(first, second - effect) for effect, first, second in zip(one[1], one[2], other[2])]
    return (plus(one[0], other[0]), added(one[1], other[1]), tuple(demand))


def again(one, many):
    """The tally of a tally's doing, so many times."""
    # Of a jar that loses things each time the last time asks the most, of another one the first.
    demand = [asked + max(0, -effect * (many - 1)) for effect, asked in zip(one[1], one[2])]
    return (times(one[0], (many, 1)), multiplied(one[1], many), tuple(demand))


def tally_of_often(jars, body, goings):
    """The tally of an often, gone by some goings."""
    found = no_tally(jars)
    for going in goings:
        found = behind(found, again(tally_of(jars, body[1], going[1]), going[0]))
    return found


def tally_of_take(jars, body):
    """The tally of what a take takes out."""
    return ((0, 1), things_of(jars, body[1], -body[2]), things_of(jars, body[1], body[2]))


def tally_of(jars, body, trace):
    """The tally of a trace of a body, for jars of these names."""
    head = body[0]
    nothing = no_tally(jars)
    if head == "pay":
        return (body[1], nothing[1], nothing[2])
    if head == "put":
        return (nothing[0], things_of(jars, body[1], body[2]), nothing[2])
    if head == "then":
        return behind(tally_of(jars, body[1], trace[0]), tally_of(jars, body[2], trace[1]))
    if head == "often":
        return tally_of_often(jars, body, trace)
    if head not in ("either", "take"):
        return nothing
    side = tally_of(jars, chosen(body, trace), trace[1])
    if head == "take" and trace[0] == 0:
        return behind(tally_of_take(jars, body), side)
    return side


def tally(house, d, trace):
    """The cost, the effect and the demand of a trace of a house's deed."""
    return tally_of(house[0], house[1][d][1], trace)
