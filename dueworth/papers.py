"""Papers: worths of the jars' things and what is left of a deed's price at each row."""

from dueworth.charts import chart
from dueworth.filling import fillable
from dueworth.fractions import highest, less, minus, plus, times, worth_of
from dueworth.lines import lines
from dueworth.rows import rows_come_to


def worths_of_fillable(house, worths):
    """By the names of the jars that can be filled what a thing in each is worth."""
    names = fillable(house)
    return dict([(jar, worth) for jar, worth in zip(house[0], worths) if jar in names])


def asked_at(row, lefts, worths):
    """What the left at a row that is come to must not be below; worths by the names of the jars that can be filled."""
    head = row[0]
    if head == "end":
        return [(0, 1)]
    if head == "pay":
        return [plus(row[1], lefts[row[2]])]
    if head == "put":
        return [plus(times(worths[row[1]], (row[2], 1)), lefts[row[3]])]
    if head != "take":
        return [lefts[row[1]], lefts[row[2]]]
    if row[1] not in worths:
        return [lefts[row[4]]]
    return [lefts[row[4]], minus(lefts[row[3]], times(worths[row[1]], (row[2], 1)))]


def deed_holds(rows, come_to, lefts, worths):
    """Whether the lefts of a deed hold at the rows of its chart that are come to."""
    return not any([less(lefts[number], highest(asked_at(rows[number], lefts, worths))) for number in come_to])


def paper_holds(house, paper):
    """Whether a paper holds."""
    if len(paper[0]) != len(house[0]) or any([less(worth, (0, 1)) for worth in paper[0]]):
        return False
    charts = [chart(deed[1]) for deed in house[1]]
    if [len(lefts) for lefts in paper[1]] != [len(rows) for rows in charts]:
        return False
    worths = worths_of_fillable(house, paper[0])
    for rows, come_to, lefts in zip(charts, rows_come_to(house), paper[1]):
        if not deed_holds(rows, come_to, lefts, worths):
            return False
    return True


def least_lefts(rows, come_to, worths):
    """The least lefts of a deed by worths by which no round gains, nought at rows that aren't come to."""
    lefts = [(0, 1)] * len(rows)
    ahead = None
    # Raised row by row until nothing asks for more: as no round gains, no way asks for more by going one again.
    while lefts != ahead:
        ahead = list(lefts)
        for number in reversed(come_to):
            lefts[number] = highest([lefts[number]] + asked_at(rows[number], lefts, worths))
    return tuple(lefts)


def gains(line, worths):
    """Whether a line's cost and the worth of its effect come to more than nought."""
    return less((0, 1), plus(line[2], worth_of(line[3], worths)))


def paper_by(house, worths):
    """("paper", paper), the least one with these worths that holds; or ("round", line), the first round that gains."""
    gaining = [line for line in lines(house) if line[1] is not None and gains(line, worths)]
    if gaining != []:
        return ("round", gaining[0])
    by_name = worths_of_fillable(house, worths)
    lefts = []
    for deed, come_to in zip(house[1], rows_come_to(house)):
        lefts.append(least_lefts(chart(deed[1]), come_to, by_name))
    return ("paper", (worths, tuple(lefts)))
