"""Bodies and houses, written."""

from dueworth.bodies import sides_of
from dueworth.fractions import show_fraction


def show_body(body):
    """A body's text."""
    if body[0] == "rest":
        return "rest"
    if body[0] == "pay":
        return "(pay " + show_fraction(body[1]) + ")"
    sides = sides_of(body)
    own = body[:len(body) - len(sides)]
    words = [str(word) for word in own] + [show_body(side) for side in sides]
    return "(" + " ".join(words) + ")"


def show_house(house):
    """A house's text: the row of its jars, then a row for each deed."""
    rows = [" ".join(("jars",) + house[0])]
    for deed in house[1]:
        rows.append("deed " + deed[0] + " : " + show_body(deed[1]))
    return "\n".join(rows)
