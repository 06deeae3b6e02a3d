"""Other tellings of papers, for the tests: by Python's fractions, along the charts."""

from fractions import Fraction

from dueworth.charts import chart
from dueworth.doing import done
from dueworth.errors import Stuck
from dueworth.filling import filling
from dueworth.lines import lines
from dueworth.rows import rows_come_to
from samples import pair, random_fraction, random_trace
from sums import dot, worth, worths


def fillable_in(house):
    return [house[0][step[0]] for step in filling(house)]


def steps_from(row, by_name, names):
    """Where one can go on from a row: pairs (row, what is asked for more than the left there)."""
    if row[0] == "end":
        return []
    if row[0] == "pay":
        return [(row[2], worth(row[1]))]
    if row[0] == "put":
        return [(row[3], row[2] * by_name[row[1]])]
    if row[0] in ("either", "often"):
        return [(row[1], Fraction(0)), (row[2], Fraction(0))]
    taken = [(row[3], -row[2] * by_name[row[1]])] if row[1] in names else []
    return taken + [(row[4], Fraction(0))]


def dearest_way(steps, number, seen):
    """The most that is asked for on a way from a row to the end that comes to no row twice, or None."""
    if not steps[number]:
        return Fraction(0)
    found = []
    for there, asked in steps[number]:
        more = None if there in seen else dearest_way(steps, there, seen + (there,))
        if more is not None:
            found.append(asked + more)
    return max(found, default=None)


def least_lefts(house, jar_worths):
    """The least lefts, where no round gains: the most that any way on asks for."""
    by_name = dict(zip(house[0], worths(jar_worths)))
    names = fillable_in(house)
    told = []
    for deed, come_to in zip(house[1], rows_come_to(house)):
        steps = [steps_from(row, by_name, names) for row in chart(deed[1])]
        lefts = [dearest_way(steps, n, (n,)) if n in come_to else Fraction(0) for n in range(len(steps))]
        told.append(tuple(pair(left) for left in lefts))
    return tuple(told)


def holds(house, paper):
    """Whether a paper holds, by the words of its promise."""
    jar_worths, lefts = paper
    charts = [chart(deed[1]) for deed in house[1]]
    if len(jar_worths) != len(house[0]) or [len(some) for some in lefts] != [len(rows) for rows in charts]:
        return False
    if any(one < 0 for one in worths(jar_worths)):
        return False
    by_name = dict(zip(house[0], worths(jar_worths)))
    names = fillable_in(house)
    for rows, come_to, some in zip(charts, rows_come_to(house), lefts):
        left = worths(some)
        if left[-1] < 0:
            return False
        for number in come_to:
            for there, asked in steps_from(rows[number], by_name, names):
                if left[number] < left[there] + asked:
                    return False
    return True


def with_left(paper, d, row, left):
    """The same paper with another left at one row."""
    deed = paper[1][d]
    deed = deed[:row] + (left,) + deed[row + 1:]
    return (paper[0], paper[1][:d] + (deed,) + paper[1][d + 1:])


def columns_of(house):
    """The columns of a house's lines; rounds are of no deed."""
    return tuple((line[0] if line[1] is None else None, line[2], line[3]) for line in lines(house))


def more(one, by):
    return pair(worth(one) + by)


def random_worths(chance, house, most=10 ** 6):
    return tuple(random_fraction(chance, most) for jar in house[0])


def random_shares(chance, house):
    """Shares from nought on, so that passes that take nothing bring things for some of the others."""
    shares = []
    for line in lines(house):
        takes = min(line[3], default=0) < 0
        share = random_fraction(chance, 9 if takes else 1000)
        shares.append((0, 1) if chance.random() < 0.3 else share)
    return tuple(shares)


def gaining(line, jar_worths):
    return worth(line[2]) + dot(line[3], worths(jar_worths)) > 0


def doings_from_empty(chance, house, count):
    """A story of at most so many deeds, drawn from empty jars: tuples (d, trace, jars ahead, what one comes to)."""
    jars = (0,) * len(house[0])
    for number in range(count):
        d = chance.randrange(len(house[1]))
        trace = random_trace(chance, house[1][d][1])
        try:
            rows = done(house, jars, d, trace, 2000)
        except Stuck:
            continue
        yield d, trace, jars, rows
        jars = rows[-1][1]
