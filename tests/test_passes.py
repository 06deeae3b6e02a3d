"""Promises 2 and 21: passes and rounds."""

import unittest

import samples
import walking
from dueworth.charts import chart
from dueworth.filling import filling
from dueworth.passes import passes, rounds
from dueworth.reader import read_body
from dueworth.rows import rows_come_to
from dueworth.traces import is_trace, led_to
from fillings import HOUSES, many_houses

FULL = ("fill", ("put", "x", 1))

# A body in a house whose jar x is fillable and whose jar y isn't, its passes, and its rounds.
TOLD = (
    ("rest", [()], []),
    ("(pay 1)", [()], []),
    ("(put x 1)", [()], []),
    ("(then rest (pay 1))", [((), ())], []),
    ("(either rest rest)", [(0, ()), (1, ())], []),
    ("(either (either rest rest) rest)", [(0, (0, ())), (0, (1, ())), (1, ())], []),
    ("(either rest (either rest rest))", [(0, ()), (1, (0, ())), (1, (1, ()))], []),
    ("(take x 1 rest rest)", [(0, ()), (1, ())], []),
    ("(take y 1 rest rest)", [(1, ())], []),
    ("(take y 1 (either rest rest) (either rest rest))", [(1, (0, ())), (1, (1, ()))], []),
    ("(take x 1 (take y 1 rest rest) (take x 1 rest rest))", [(0, (1, ())), (1, (0, ())), (1, (1, ()))], []),
    ("(then (either rest rest) (either rest rest))",
     [((0, ()), (0, ())), ((0, ()), (1, ())), ((1, ()), (0, ())), ((1, ()), (1, ()))], []),
    ("(then (take y 1 rest rest) (take x 1 rest rest))", [((1, ()), (0, ())), ((1, ()), (1, ()))], []),
    ("(then (then (either rest rest) (pay 1)) (either rest rest))",
     [(((0, ()), ()), (0, ())), (((0, ()), ()), (1, ())), (((1, ()), ()), (0, ())), (((1, ()), ()), (1, ()))], []),
    # No often is gone.
    ("(often (pay 1))", [()], [(0, ())]),
    ("(often rest)", [()], [(0, ())]),
    ("(often (either rest rest))", [()], [(0, (0, ())), (0, (1, ()))]),
    ("(often (take x 1 rest rest))", [()], [(0, (0, ())), (0, (1, ()))]),
    ("(often (take y 1 rest rest))", [()], [(0, (1, ()))]),
    ("(then (often (pay 1)) (often (either rest rest)))", [((), ())], [(0, ()), (1, (0, ())), (1, (1, ()))]),
    ("(either (often rest) (often (often rest)))", [(0, ()), (1, ())], [(0, ()), (1, ()), (2, ())]),
    ("(often (then (often (either rest rest)) (either rest rest)))", [()],
     [(0, ((), (0, ()))), (0, ((), (1, ()))), (1, (0, ())), (1, (1, ()))]),
    # Only of oftens whose row is come to; the number is that of the often.
    ("(take y 1 (often rest) rest)", [(1, ())], []),
    ("(take y 1 rest (often rest))", [(1, ())], [(0, ())]),
    ("(take y 1 (often (often rest)) (often rest))", [(1, ())], [(2, ())]),
    ("(take x 1 (often rest) (often rest))", [(0, ()), (1, ())], [(0, ()), (1, ())]),
    ("(often (take y 1 (often (pay 1)) (often (pay 2))))", [()], [(0, (1, ())), (2, ())]),
    ("(then (take y 1 (often rest) rest) (often (take x 1 rest (often rest))))", [((1, ()), ())],
     [(1, (0, ())), (1, (1, ())), (2, ())]),
    ("(take x 1 (take y 1 (often rest) (often rest)) (take y 1 rest (often rest)))", [(0, (1, ())), (1, (1, ()))],
     [(1, ()), (2, ())]),
)


def house_of(text):
    return (("x", "y"), (FULL, ("a", read_body(text))))


def all_choices(rows, row, names):
    """The choices of all ways from a row to the end that go no often and take only of some jars, rising."""
    head = rows[row][0]
    if head == "end":
        return [()]
    if head in ("pay", "put"):
        return all_choices(rows, rows[row][-1], names)
    if head == "often":
        sides = (1,)
    elif head == "take" and rows[row][1] not in names:
        sides = (1,)
    else:
        sides = (0, 1)
    return [(side,) + more for side in sides for more in all_choices(rows, rows[row][-2 + side], names)]


class TestPassesAndRounds(unittest.TestCase):
    def test_told(self):
        for text, found, gone in TOLD:
            with self.subTest(text=text):
                self.assertEqual(passes(house_of(text), 1), found)
                self.assertEqual(rounds(house_of(text), 1), gone)
                self.assertEqual(passes(house_of(text), 0), [()])
                self.assertEqual(rounds(house_of(text), 0), [])

    def assert_passes(self, body, names, found):
        """Traces of a body, told by their choices, in order."""
        self.assertIs(type(found), list)
        for trace in found:
            self.assertIs(is_trace(body, trace), True)
        told = [tuple(walking.choices(body, trace)) for trace in found]
        self.assertEqual(told, all_choices(chart(body), 0, names))
        self.assertEqual(told, sorted(set(told)))

    def test_many_houses(self):
        gone = 0
        for house in [row[0] for row in HOUSES] + many_houses() + samples.houses_let_by(150, 79):
            names = [house[0][step[0]] for step in filling(house)]
            for d, deed in enumerate(house[1]):
                self.assert_passes(deed[1], names, passes(house, d))
                told = rounds(house, d)
                self.assertIs(type(told), list)
                self.assert_rounds(house, d, names, told)
                gone += len(told)
        self.assertGreater(gone, 300)

    def assert_rounds(self, house, d, names, told):
        body = house[1][d][1]
        come_to = rows_come_to(house)[d]
        rows = [number for number, row in enumerate(chart(body)) if row[0] == "often"]
        numbers = [number for number, row in enumerate(rows) if row in come_to]
        self.assertEqual(sorted({number for number, trace in told}), numbers)
        self.assertEqual([number for number, trace in told], sorted(number for number, trace in told))
        for number, often in enumerate(samples.oftens_in(body)):
            if number in numbers:
                self.assert_passes(often[1], names, [trace for other, trace in told if other == number])

    def test_told_traces_are_handed_on(self):
        for house, names, rows in HOUSES:
            for d, deed in enumerate(house[1]):
                for number, trace in rounds(house, d):
                    self.assertIs(is_trace(deed[1], led_to(deed[1], number, ((10 ** 6, trace),))), True)

    def test_as_many_as_bodies_have(self):
        body = ("either", ("rest",), ("rest",))
        for count in range(4):
            body = ("then", body, ("either", ("rest",), ("rest",)))
        found = passes(((), (("a", body),)), 0)
        self.assertEqual(len(found), 32)
        self.assertEqual(rounds(((), (("a", ("often", body)),)), 0), [(0, trace) for trace in found])

    def test_the_lists_are_the_askers_own(self):
        house = house_of("(then (often (either rest rest)) (take x 1 rest rest))")
        for ask in (passes, rounds):
            first = ask(house, 1)
            kept = list(first)
            self.assertEqual(len(kept), 2)
            first.append("q")
            first[0] = None
            second = ask(house, 1)
            self.assertEqual(second, kept)
            second.clear()
            self.assertEqual(ask(house, 1), kept)
        none = rounds(house, 0)
        none.append("q")
        self.assertEqual(rounds(house, 0), [])
        one = passes(house, 0)
        one.append("q")
        self.assertEqual(passes(house, 0), [()])

    def test_nothing_is_changed(self):
        house = house_of("(often (take x 1 (often rest) rest))")
        before = repr(house)
        passes(house, 1)
        rounds(house, 1)
        self.assertEqual(repr(house), before)


if __name__ == "__main__":
    unittest.main()
