"""Promises 2 and 10: charts."""

import unittest

import samples
from dueworth.charts import chart
from samples import PAY, PUT, REST, USE

C = (3, 2)
END = ("end",)

CHARTS = {
    # Each head by itself.
    REST: (END,),
    PAY: (("pay", C, 1), END),
    PUT: (("put", "b", 4, 1), END),
    USE: (("use", "d", 1), END),
    ("then", PAY, PUT): (("pay", C, 1), ("put", "b", 4, 2), END),
    ("either", PAY, PUT): (("either", 1, 2), ("pay", C, 3), ("put", "b", 4, 3), END),
    ("take", "a", 2, PAY, USE): (("take", "a", 2, 1, 2), ("pay", C, 3), ("use", "d", 3), END),
    ("often", PAY): (("often", 1, 2), ("pay", C, 0), END),
    # Thens within thens.
    ("then", ("then", PAY, PUT), USE): (("pay", C, 1), ("put", "b", 4, 2), ("use", "d", 3), END),
    ("then", PAY, ("then", PUT, USE)): (("pay", C, 1), ("put", "b", 4, 2), ("use", "d", 3), END),
    ("then", ("either", PAY, PUT), USE): (
        ("either", 1, 2), ("pay", C, 3), ("put", "b", 4, 3), ("use", "d", 4), END),
    ("then", ("often", PAY), USE): (("often", 1, 2), ("pay", C, 0), ("use", "d", 3), END),
    ("then", PAY, ("often", USE)): (("pay", C, 1), ("often", 2, 3), ("use", "d", 1), END),
    # Bodies without rows.
    ("then", REST, REST): (END,),
    ("then", ("then", REST, REST), ("then", REST, ("then", REST, REST))): (END,),
    ("then", REST, PAY): (("pay", C, 1), END),
    ("then", PAY, REST): (("pay", C, 1), END),
    ("then", PAY, ("then", REST, PUT)): (("pay", C, 1), ("put", "b", 4, 2), END),
    ("then", ("then", PAY, ("then", REST, REST)), PUT): (("pay", C, 1), ("put", "b", 4, 2), END),
    ("either", REST, REST): (("either", 1, 1), END),
    ("either", PAY, REST): (("either", 1, 2), ("pay", C, 2), END),
    ("either", REST, PAY): (("either", 2, 1), ("pay", C, 2), END),
    ("either", ("then", REST, REST), PAY): (("either", 2, 1), ("pay", C, 2), END),
    ("take", "a", 1, REST, REST): (("take", "a", 1, 1, 1), END),
    ("take", "a", 1, PAY, REST): (("take", "a", 1, 1, 2), ("pay", C, 2), END),
    ("take", "a", 1, REST, PAY): (("take", "a", 1, 2, 1), ("pay", C, 2), END),
    ("often", REST): (("often", 0, 1), END),
    ("often", ("then", REST, REST)): (("often", 0, 1), END),
    ("then", ("either", REST, REST), PAY): (("either", 1, 1), ("pay", C, 2), END),
    ("then", ("take", "a", 1, REST, PUT), PAY): (("take", "a", 1, 2, 1), ("put", "b", 4, 2), ("pay", C, 3), END),
    ("then", PAY, ("often", REST)): (("pay", C, 1), ("often", 1, 2), END),
    # Oftens within oftens, last and first.
    ("often", ("often", PAY)): (("often", 1, 3), ("often", 2, 0), ("pay", C, 1), END),
    ("often", ("often", REST)): (("often", 1, 2), ("often", 1, 0), END),
    ("often", ("then", PAY, ("often", USE))): (
        ("often", 1, 4), ("pay", C, 2), ("often", 3, 0), ("use", "d", 2), END),
    ("often", ("then", ("often", USE), PAY)): (
        ("often", 1, 4), ("often", 2, 3), ("use", "d", 1), ("pay", C, 0), END),
    ("often", ("either", REST, PAY)): (("often", 1, 3), ("either", 0, 2), ("pay", C, 0), END),
    ("often", ("take", "a", 3, ("often", PAY), REST)): (
        ("often", 1, 4), ("take", "a", 3, 2, 0), ("often", 3, 0), ("pay", C, 2), END),
    ("either", ("often", PAY), ("often", PUT)): (
        ("either", 1, 3), ("often", 2, 5), ("pay", C, 1), ("often", 4, 5), ("put", "b", 4, 3), END),
    ("then", ("often", ("either", PAY, REST)), ("take", "a", 1, ("then", PUT, REST), ("often", USE))): (
        ("often", 1, 3), ("either", 2, 0), ("pay", C, 0), ("take", "a", 1, 4, 5), ("put", "b", 4, 7),
        ("often", 6, 7), ("use", "d", 5), END),
}


def ways_through(body, most):
    """All that may be met on ways through a body, by at most so many steps, told by the body itself."""
    head = body[0]
    if head == "rest":
        return {()}
    if head in ("pay", "put", "use"):
        return {(body,)} if most >= 1 else set()
    if head == "then":
        return joined(ways_through(body[1], most), ways_through(body[2], most), most)
    if head == "often":
        return rounds_through(body, most)
    own = body[:-2]
    ways = set()
    for side in (0, 1):
        ways |= joined({(own + (side,),)}, ways_through(body[side - 2], most), most)
    return ways


def joined(firsts, seconds, most):
    return {one + other for one in firsts for other in seconds if len(one) + len(other) <= most}


def rounds_through(body, most):
    ways = set()
    gone = {()}
    once = joined({(("often", 0),)}, ways_through(body[1], most), most)
    while gone:
        ways |= joined(gone, {(("often", 1),)}, most)
        gone = joined(gone, once, most)
    return ways


def ways_on(rows, row, most):
    """The same from a row of a chart on, told by the chart."""
    if rows[row] == END:
        return {()}
    if most == 0:
        return set()
    words = rows[row][:-1] if rows[row][0] in ("pay", "put", "use") else rows[row][:-2]
    exits = [(words, rows[row][-1])]
    if rows[row][0] not in ("pay", "put", "use"):
        exits = [(words + (side,), rows[row][side - 2]) for side in (0, 1)]
    return {(met,) + way for met, onward in exits for way in ways_on(rows, onward, most - 1)}


def heads_in(body):
    """The words of a body's rows, as they stand."""
    own = tuple(thing for thing in body if not (isinstance(thing, tuple) and isinstance(thing[0], str)))
    sides = [thing for thing in body[1:] if isinstance(thing, tuple) and isinstance(thing[0], str)]
    found = [] if body[0] in ("rest", "then") else [own]
    for side in sides:
        found.extend(heads_in(side))
    return found


class TestCharts(unittest.TestCase):
    def test_told(self):
        for body, rows in CHARTS.items():
            with self.subTest(body=body):
                self.assertEqual(chart(body), rows)

    def test_tuples_of_tuples(self):
        for body in CHARTS:
            rows = chart(body)
            self.assertIs(type(rows), tuple)
            for row in rows:
                self.assertIs(type(row), tuple)
            self.assertLessEqual(samples.kinds_of(rows), {"tuple", "str", "int"})

    def test_rests_within_all_heads_change_no_row(self):
        for body, rows in CHARTS.items():
            self.assertEqual(chart(padded(body)), rows)

    def test_many_bodies(self):
        for body in samples.random_bodies(250, 5, 5):
            rows = chart(body)
            self.assertEqual(rows[-1], END)
            words = [row[:-1] if row[0] in ("pay", "put", "use") else row[:-2] for row in rows[:-1]]
            self.assertEqual(words, heads_in(body))
            most = 7
            self.assertEqual(ways_on(rows, 0, most), ways_through(body, most))

    def test_deep_bodies(self):
        body = PAY
        for count in range(1, 61):
            body = ("often", body)
        rows = chart(body)
        self.assertEqual(len(rows), 62)
        self.assertEqual(rows[0], ("often", 1, 61))
        self.assertEqual(rows[59], ("often", 60, 58))
        self.assertEqual(rows[60], ("pay", C, 59))

    def test_nothing_is_changed_and_asked_again_it_is_told_again(self):
        before = repr(list(CHARTS))
        for body in CHARTS:
            self.assertEqual(chart(body), chart(body))
        self.assertEqual(repr(list(CHARTS)), before)


def padded(body):
    """A body with a rest ahead of and behind each of its parts."""
    own = tuple(thing for thing in body if not (isinstance(thing, tuple) and isinstance(thing[0], str)))
    sides = tuple(padded(thing) for thing in body[1:] if isinstance(thing, tuple) and isinstance(thing[0], str))
    return ("then", REST, ("then", own + sides, ("then", REST, REST)))


if __name__ == "__main__":
    unittest.main()
