"""Dues: the least that deeds must be paid ahead for a mix."""

from dueworth.lines import lines
from dueworth.papers import paper_by
from dueworth.weighing import weighed


def column_of(line):
    """A line's column: a pass is in its deed's number, a round in none."""
    return (line[0] if line[1] is None else None, line[2], line[3])


def dues_told(house, mix):
    """("dues", sum, paper, shares) for a mix of a house's deeds, or ("boundless", shares)."""
    told = weighed(tuple([column_of(line) for line in lines(house)]), mix)
    if told[0] == "endless":
        return ("boundless", told[1])
    # By the worths told no round gains, and the least dues by them are no more than the prices told.
    return ("dues", told[1], paper_by(house, told[4])[1], told[2])
