"""Houses made of houses: put beside one another, called anew, cut."""

from dueworth.bodies import changed
from dueworth.looks import refuse_meeting


def deed_names(house):
    """The names of a house's deeds."""
    return [deed[0] for deed in house[1]]


def beside(one, other):
    """Two houses as one, or NoHouse where a jar or a deed of both is called alike."""
    refuse_meeting(one[0], other[0])
    refuse_meeting(deed_names(one), deed_names(other))
    return (one[0] + other[0], one[1] + other[1])


def called_anew(house, jars, deeds):
    """A house whose jars and deeds are called anew by pairs (old, new); others stay."""
    new_jars = dict(jars)
    new_deeds = dict(deeds)

    def with_new_jar(part):
        if part[0] not in ("put", "take"):
            return part
        return (part[0], new_jars.get(part[1], part[1])) + part[2:]

    names = tuple([new_jars.get(jar, jar) for jar in house[0]])
    return (names, tuple([(new_deeds.get(deed[0], deed[0]), changed(deed[1], with_new_jar)) for deed in house[1]]))


def cut(house, d):
    """A house without the deed of a number."""
    return (house[0], house[1][:d] + house[1][d + 1:])
