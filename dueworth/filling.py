"""Fillings: the jars into which things can be brought from empty jars, and how."""

from dueworth.bodies import sides_of
from dueworth.traces import led_to_part


def parts_reached(body, names, reached=True):
    """All parts of a body as they stand, each with whether one can come to it taking only of jars of these names."""
    found = [(body, reached)]
    for number, side in enumerate(sides_of(body)):
        shut = body[0] == "take" and number == 0 and body[1] not in names
        found.extend(parts_reached(side, names, reached and not shut))
    return found


def next_step(house, names):
    """A step (j, d, t) of a filling that brings some into another jar, taking only of jars of these names; or None."""
    for d, deed in enumerate(house[1]):
        for place, found in enumerate(parts_reached(deed[1], names)):
            part = found[0]
            if found[1] and part[0] == "put" and part[1] not in names:
                return (house[0].index(part[1]), d, led_to_part(deed[1], place, ()))
    return None


def filling(house):
    """A list of (j, d, t), one for each jar that can be filled, each taking only of jars ahead in the list."""
    found = []
    names = []
    step = next_step(house, names)
    while step is not None:
        found.append(step)
        names.append(house[0][step[0]])
        step = next_step(house, names)
    return found


def fillable(house):
    """The names of the jars that can be filled."""
    return [house[0][step[0]] for step in filling(house)]
