"""The desk: a house's text and a row are answered by words."""

from dueworth.dues import dues_told
from dueworth.errors import BadText, NoRow, TooMany
from dueworth.filling import fillable
from dueworth.fractions import FIGURES, less, read_figures, read_from_nought_on, show_figures, show_fraction, worth_of
from dueworth.lines import line_count
from dueworth.looks import look
from dueworth.overruns import overrun
from dueworth.papers import paper_by
from dueworth.reader import read_house
from dueworth.rows import rows_come_to
from dueworth.stories import story_tally

MOST_LINES = 24
BY_LINES = ("due", "by", "over")


def read_mix(words):
    """The numbers of one figure that words write, or NoRow."""
    if not all([len(word) == 1 and word in FIGURES for word in words]):
        raise NoRow()
    return tuple([int(word) for word in words])


def read_fractions(words):
    """The fractions from nought on that words write, or NoRow."""
    try:
        return tuple([read_from_nought_on(word) for word in words])
    except BadText as bad:
        raise NoRow() from bad


def read_sum(word):
    """The whole number from nought on that a word writes, or NoRow."""
    try:
        return read_figures(word)
    except BadText as bad:
        raise NoRow() from bad


def read_asked(house, words):
    """What the words of a row ask a house with, or NoRow."""
    head = words[0]
    things = words[1:]
    deeds = len(house[1])
    if head in ("fills", "rows", "lines") and things == []:
        return ()
    if head == "due" and len(things) == deeds:
        return (read_mix(things),)
    if head == "by" and len(things) == len(house[0]):
        return (read_fractions(things),)
    if head == "over" and len(things) == 2 * deeds + 1:
        return (read_mix(things[:deeds]), read_fractions(things[deeds:-1]), read_sum(things[-1]))
    raise NoRow()


def fills(house):
    """The names of the jars that can be filled, in the house's order."""
    names = fillable(house)
    found = [jar for jar in house[0] if jar in names]
    return found if found != [] else ["none"]


def rows(house):
    """For each deed its name and how many of its rows are come to."""
    found = []
    for deed, come_to in zip(house[1], rows_come_to(house)):
        found.extend([deed[0], show_figures(len(come_to))])
    return found


def lines_counted(house):
    """How many lines a house has."""
    return [show_figures(line_count(house))]


def due(house, mix):
    """The sum told for a mix."""
    told = dues_told(house, mix)
    return ["boundless"] if told[0] == "boundless" else [show_fraction(told[1])]


def by(house, worths):
    """The dues by worths, or the deed of the round that gains."""
    told = paper_by(house, worths)
    if told[0] == "round":
        return ["round", house[1][told[1][0]][0]]
    return [show_fraction(lefts[0]) for lefts in told[1][1]]


def over(house, mix, prices, more):
    """Whether some prices are too low for a mix, and cost and pay of a story that exceeds them by more than a sum."""
    told = dues_told(house, mix)
    if told[0] == "dues" and not less(worth_of(mix, prices), told[1]):
        return ["no"]
    found = story_tally(house, overrun(house, told[-1], prices, more))
    return ["yes", show_fraction(found[0]), show_fraction(worth_of(found[1], prices))]


def answer(house, head, asked):
    """The words of the answer."""
    if head == "fills":
        return fills(house)
    if head == "rows":
        return rows(house)
    if head == "lines":
        return lines_counted(house)
    if head == "due":
        return due(house, asked[0])
    if head == "by":
        return by(house, asked[0])
    return over(house, asked[0], asked[1], asked[2])


def answered(text, row):
    """The answer to a row asked of the house of a text; or BadText, NoHouse, NoRow, TooMany."""
    house = read_house(text)
    look(house)
    words = row.split(" ")
    asked = read_asked(house, words)
    if words[0] in BY_LINES and line_count(house) > MOST_LINES:
        raise TooMany()
    return " ".join(answer(house, words[0], asked))
