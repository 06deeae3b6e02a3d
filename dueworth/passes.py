"""Passes and rounds: the traces without goings of a deed, and of what its oftens go."""

from dueworth.filling import fillable, parts_reached


def passes_of_then(body, names):
    """The passes of a then: each of the first side with each of the second."""
    found = []
    seconds = passes_of(body[2], names)
    for one in passes_of(body[1], names):
        found.extend([(one, other) for other in seconds])
    return found


def passes_of(body, names):
    """The passes of a body where jars of these names may be taken of, in order."""
    if body[0] == "then":
        return passes_of_then(body, names)
    if body[0] not in ("either", "take"):
        return [()]
    others = [(1, trace) for trace in passes_of(body[-1], names)]
    if body[0] == "take" and body[1] not in names:
        return others
    return [(0, trace) for trace in passes_of(body[-2], names)] + others


def passes(house, d):
    """The passes of a house's deed, in order."""
    return passes_of(house[1][d][1], fillable(house))


def oftens_come_to(body, names):
    """The oftens of a body to which one can come, taking only of jars of these names: pairs (number, what it goes)."""
    oftens = [found for found in parts_reached(body, names) if found[0][0] == "often"]
    return [(number, found[0][1]) for number, found in enumerate(oftens) if found[1]]


def rounds(house, d):
    """The rounds (number, t) of a house's deed, of oftens that are come to, in order."""
    names = fillable(house)
    told = []
    for number, inner in oftens_come_to(house[1][d][1], names):
        told.extend([(number, trace) for trace in passes_of(inner, names)])
    return told
