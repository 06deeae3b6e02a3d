"""Weighing: the most that columns cost for a mix, and the prices and worths by which they cost no more."""

from dueworth.fractions import common, fraction, highest, plus, worth_of


def common_bottom(fractions):
    """The least whole number that each of some fractions' bottoms goes into."""
    found = 1
    for one in fractions:
        found = found * one[1] // common(found, one[1])
    return found


def row_of_deed(columns, jars, mix, d):
    """The row that asks for a deed's number in the mix."""
    return [1 if column[0] == d else 0 for column in columns] + [0] * jars + [mix[d]]


def row_of_jar(columns, jars, jar):
    """The row by which what is over in a jar, a place behind the columns', is what comes in less what goes out."""
    over = [1 if other == jar else 0 for other in range(jars)]
    return [-column[2][jar] for column in columns] + over + [0]


def without(row, chosen, place, bottom):
    """A row from which the chosen row is taken off so that nothing is left at a place, over a new bottom."""
    # All that stands here are parts of one determinant, so that the bottom goes into it without rest.
    return [(one * chosen[place] - row[place] * other) // bottom for one, other in zip(row, chosen)]


class Balance:
    """Rows of whole numbers, all over one bottom, each held by a place; the last row, held by none, is the goal's.

    Places are the columns', then one for each jar, then what the row comes to.
    """

    def __init__(self, rows, held):
        self.rows = rows
        self.held = held
        self.bottom = 1

    def hold(self, number, place):
        """The row of a number is held by a place from now on."""
        chosen = self.rows[number]
        others = [without(row, chosen, place, self.bottom) for row in self.rows]
        self.rows = others[:number] + [chosen] + others[number + 1:]
        self.bottom = chosen[place]
        self.held[number] = place

    def gaining(self):
        """The first place of which more makes the goal more, or None."""
        for place, number in enumerate(self.rows[-1][:-1]):
            if number < 0:
                return place
        return None

    def sooner(self, one, other, place):
        """Whether one row is used up sooner than another by more of a place; of two at once that of the first place."""
        first = self.rows[one][-1] * self.rows[other][place]
        second = self.rows[other][-1] * self.rows[one][place]
        return (first, self.held[one]) < (second, self.held[other])

    def used_up(self, place):
        """The row that is used up first by more of a place, or None."""
        found = None
        for number in range(len(self.held)):
            if self.rows[number][place] > 0 and (found is None or self.sooner(number, found, place)):
                found = number
        return found

    def held_by(self, count, place, sign):
        """For each of so many columns what stands at a place of the row that it holds, nought where it holds none."""
        found = [(0, 1)] * count
        for row, held in zip(self.rows, self.held):
            if held < count:
                found[held] = fraction(sign * row[place], self.bottom)
        return found


def balance_of(columns, jars, mix):
    """The rows of columns and a mix, held by a column of each deed that takes nothing, and by the jars."""
    bottom = common_bottom([column[1] for column in columns])
    goal = [-column[1][0] * (bottom // column[1][1]) for column in columns] + [0] * (jars + 1)
    rows = [row_of_deed(columns, jars, mix, d) for d in range(len(mix))]
    rows.extend([row_of_jar(columns, jars, jar) for jar in range(jars)])
    balance = Balance(rows + [goal], [len(columns) + number - len(mix) for number in range(len(rows))])
    for d in range(len(mix)):
        balance.hold(d, first_that_takes_nothing(columns, d))
    return balance


def first_that_takes_nothing(columns, d):
    """The place of the first column of a deed with no number below nought in its effect."""
    fit = [place for place, column in enumerate(columns) if column[0] == d and min(column[2], default=0) >= 0]
    return fit[0]


def price_of(columns, worths, d):
    """The least price of a deed by which none of its columns comes to more."""
    return highest([plus(column[1], worth_of(column[2], worths)) for column in columns if column[0] == d])


def endless(balance, columns, place):
    """What is told where nothing is used up by more of a place."""
    shares = balance.held_by(len(columns), place, -1)
    if place < len(columns):
        shares[place] = (1, 1)
    return ("endless", tuple(shares))


def most(balance, columns, mix):
    """What is told where there is no more to gain."""
    bottom = balance.bottom * common_bottom([column[1] for column in columns])
    goal = balance.rows[-1]
    worths = tuple([fraction(number, bottom) for number in goal[len(columns):-1]])
    prices = tuple([price_of(columns, worths, d) for d in range(len(mix))])
    shares = tuple(balance.held_by(len(columns), -1, 1))
    return ("most", fraction(goal[-1], bottom), shares, prices, worths)


def weighed(columns, mix):
    """("most", sum, shares, prices, worths) of columns for a mix, or ("endless", shares)."""
    jars = len(columns[0][2])
    balance = balance_of(columns, jars, mix)
    place = balance.gaining()
    # The first place and the first row each time: so no rows come again, and it comes to an end.
    while place is not None:
        number = balance.used_up(place)
        if number is None:
            return endless(balance, columns, place)
        balance.hold(number, place)
        place = balance.gaining()
    return most(balance, columns, mix)
