"""Fractions: pairs (top, bottom) in lowest terms, bottom from 1 on, reckoned with, written and read."""

from dueworth.errors import BadText

FIGURES = "0123456789"


def common(one, other):
    """The greatest whole number that goes into both, nought where both are nought."""
    while other != 0:
        left = one % other
        one = other
        other = left
    return abs(one)


def fraction(top, bottom):
    """The fraction of two whole numbers, the second not nought."""
    part = common(top, bottom)
    if bottom < 0:
        part = -part
    return (top // part, bottom // part)


def plus(one, other):
    """Both together."""
    return fraction(one[0] * other[1] + other[0] * one[1], one[1] * other[1])


def minus(one, other):
    """The first with the second taken off."""
    return fraction(one[0] * other[1] - other[0] * one[1], one[1] * other[1])


def times(one, other):
    """One multiplied by the other."""
    return fraction(one[0] * other[0], one[1] * other[1])


def less(one, other):
    """Whether the first is worth less than the second."""
    return one[0] * other[1] < other[0] * one[1]


def highest(fractions):
    """The one of some fractions that is worth the most."""
    found = fractions[0]
    for one in fractions:
        if less(found, one):
            found = one
    return found


def together(fractions):
    """All of some fractions added up."""
    found = (0, 1)
    for one in fractions:
        found = plus(found, one)
    return found


def worth_of(numbers, fractions):
    """Whole numbers times fractions, place by place, added up."""
    return together([times((number, 1), one) for number, one in zip(numbers, fractions)])


def whole(one):
    """The greatest whole number that isn't above a fraction."""
    return one[0] // one[1]


def show_figures(number):
    """The figures of a whole number from nought on."""
    # Python refuses to write or read some thousand figures at once, and costs may have any size.
    pieces = []
    while number >= 10 ** 60:
        pieces.append(str(number % (10 ** 60)).zfill(60))
        number = number // (10 ** 60)
    pieces.append(str(number))
    return "".join(reversed(pieces))


def read_figures(text):
    """The whole number from nought on that a text writes, or BadText."""
    if text == "" or not all([sign in FIGURES for sign in text]):
        raise BadText(0)
    if text[0] == "0" and text != "0":
        raise BadText(0)
    # By pieces, for the reason told in show_figures.
    number = 0
    padded = text.zfill(len(text) + (-len(text)) % 60)
    for place in range(0, len(padded), 60):
        number = number * 10 ** 60 + int(padded[place:place + 60])
    return number


def show_fraction(one):
    """A fraction's text."""
    text = show_figures(abs(one[0]))
    if one[0] < 0:
        text = "-" + text
    if one[1] == 1:
        return text
    return text + "/" + show_figures(one[1])


def read_from_nought_on(text):
    """The fraction from nought on that a text writes, or BadText."""
    pieces = text.split("/")
    top = read_figures(pieces[0])
    if len(pieces) == 1:
        return (top, 1)
    if len(pieces) > 2:
        raise BadText(0)
    bottom = read_figures(pieces[1])
    if bottom < 2 or common(top, bottom) != 1:
        raise BadText(0)
    return (top, bottom)


def read_fraction(text):
    """The fraction that a text writes, or BadText."""
    if not text.startswith("-"):
        return read_from_nought_on(text)
    one = read_from_nought_on(text[1:])
    if one[0] == 0:
        raise BadText(0)
    return (-one[0], one[1])
