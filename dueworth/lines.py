"""Lines: what each pass and each round of a house costs and does to the jars."""

from dueworth.filling import fillable
from dueworth.passes import oftens_come_to, passes_of
from dueworth.tallies import tally_of


def numbered_bodies(body, names):
    """The bodies whose passes make a deed's lines: (None, the deed's own), then (number, what it goes) of oftens."""
    return [(None, body)] + oftens_come_to(body, names)


def lines(house):
    """The lines (d, number, cost, effect, t) of a house: deed by deed its passes, then its rounds."""
    names = fillable(house)
    found = []
    for d, deed in enumerate(house[1]):
        for number, body in numbered_bodies(deed[1], names):
            for trace in passes_of(body, names):
                gone = tally_of(house[0], body, trace)
                found.append((d, number, gone[0], gone[1], trace))
    return tuple(found)


def pass_count(body, names):
    """How many passes a body has where jars of these names may be taken of."""
    if body[0] == "then":
        return pass_count(body[1], names) * pass_count(body[2], names)
    if body[0] not in ("either", "take"):
        return 1
    others = pass_count(body[-1], names)
    if body[0] == "take" and body[1] not in names:
        return others
    return pass_count(body[-2], names) + others


def line_count(house):
    """How many lines a house has."""
    names = fillable(house)
    count = 0
    for deed in house[1]:
        count += sum([pass_count(body, names) for number, body in numbered_bodies(deed[1], names)])
    return count
