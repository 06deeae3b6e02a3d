"""Promises 2, 14, 21, 22 and 23: lines."""

import random
import unittest
from fractions import Fraction

import samples
from dueworth.filling import filling
from dueworth.lines import line_count, lines
from dueworth.passes import passes, rounds
from dueworth.reader import read_house
from dueworth.tallies import tally
from fillings import HOUSES, many_houses
from walking import taken_apart, walked

FULL = 10 ** 9
HALF = (1, 2)

# A house's text and its lines.
TOLD = (
    ("jars\ndeed a : rest", ((0, None, (0, 1), (), ()),)),
    ("jars\ndeed a : (pay 1/2)\ndeed b : (often (pay 2))",
     ((0, None, HALF, (), ()), (1, None, (0, 1), (), ()), (1, 0, (2, 1), (), ()))),
    ("jars x y\ndeed a : (then (put y 3) (then (pay 1/2) (pay 1/3)))", ((0, None, (5, 6), (0, 3), ((), ((), ()))),)),
    ("jars x\ndeed a : (take x 2 (pay 1) (put x 3))",
     ((0, None, (1, 1), (-2,), (0, ())), (0, None, (0, 1), (3,), (1, ())))),
    # A jar that isn't fillable: what is behind its takes has no line, neither passes nor rounds.
    ("jars x y\ndeed a : (take x 2 (often (pay 1)) (often (put y 1)))",
     ((0, None, (0, 1), (0, 0), (1, ())), (0, 1, (0, 1), (0, 1), ()))),
    ("jars x y\ndeed a : (often (take x 1 (put x 9) (either (pay 1) (put y 1))))",
     ((0, None, (0, 1), (0, 0), ()), (0, 0, (1, 1), (0, 0), (1, (0, ()))), (0, 0, (0, 1), (0, 1), (1, (1, ()))))),
    # Oftens within oftens: each gone by itself, the one within it not.
    ("jars x\ndeed a : (often (then (put x 1) (often (take x 2 (pay 1/2) rest))))",
     ((0, None, (0, 1), (0,), ()), (0, 0, (0, 1), (1,), ((), ())),
      (0, 1, HALF, (-2,), (0, ())), (0, 1, (0, 1), (0,), (1, ())))),
    # Oftens behind takes: what leads there is not in a round; passes of all, ahead of all rounds.
    ("jars x\ndeed a : (put x 1)\ndeed b : (then (pay 7) (take x 5 (often (then (pay 1) (put x 2))) (often (pay 3))))",
     ((0, None, (0, 1), (1,), ()),
      (1, None, (7, 1), (-5,), ((), (0, ()))), (1, None, (7, 1), (0,), ((), (1, ()))),
      (1, 0, (1, 1), (2,), ((), ())), (1, 1, (3, 1), (0,), ()))),
    ("jars x\ndeed a : (either (often (either (pay 1) (pay 2))) (put x 4))\ndeed b : (often (take x 9 rest (pay 3)))",
     ((0, None, (0, 1), (0,), (0, ())), (0, None, (0, 1), (4,), (1, ())),
      (0, 0, (1, 1), (0,), (0, ())), (0, 0, (2, 1), (0,), (1, ())),
      (1, None, (0, 1), (0,), ()), (1, 0, (0, 1), (-9,), (0, ())), (1, 0, (3, 1), (0,), (1, ())))),
    # Things brought and taken in one pass come together.
    ("jars x y\ndeed a : (then (put x 2) (then (take x 3 (put y 1) rest) (put x 4)))",
     ((0, None, (0, 1), (3, 1), ((), ((0, ()), ()))), (0, None, (0, 1), (6, 0), ((), ((1, ()), ()))))),
)


def gone_once(house, body, trace):
    """Cost and effect of a trace of a body, walked along its chart."""
    full = (FULL,) * len(house[0])
    row, jars, cost = walked((house[0], (("gone", body),)), full, 0, trace, 1000)[-1]
    return cost, tuple(count - FULL for count in jars)


def lines_walked(house):
    """The lines of a house, by its passes and rounds, each walked."""
    for d, deed in enumerate(house[1]):
        for trace in passes(house, d):
            yield (d, None) + gone_once(house, deed[1], trace) + (trace,)
        oftens = samples.oftens_in(deed[1])
        for number, trace in rounds(house, d):
            yield (d, number) + gone_once(house, oftens[number][1], trace) + (trace,)


def chain(count, head):
    """A body of so many choices one behind the other, each a rest or a rest."""
    choice = (head, ("rest",), ("rest",)) if head == "either" else (head, "x", 1, ("rest",), ("rest",))
    if count == 1:
        return choice
    return ("then", chain(count // 2, head), chain(count - count // 2, head))


class TestLines(unittest.TestCase):
    def test_told(self):
        for text, found in TOLD:
            with self.subTest(text=text):
                house = read_house(text)
                self.assertEqual(lines(house), found)
                self.assertEqual(line_count(house), len(found))

    def all_houses(self):
        houses = [row[0] for row in HOUSES] + many_houses()
        return houses + samples.houses_let_by(200, 81) + samples.rich_houses(150, 82)

    def test_many_houses(self):
        of_rounds = 0
        for house in self.all_houses():
            found = lines(house)
            self.assertIs(type(found), tuple)
            self.assertEqual(found, tuple(lines_walked(house)))
            self.assertLessEqual(samples.kinds_of(found), {"tuple", "int", "NoneType"})
            self.assertEqual(lines(house), found)
            of_rounds += len([line for line in found if line[1] is not None])
        self.assertGreater(of_rounds, 500)

    def test_each_line_once(self):
        for house in self.all_houses():
            keys = [(line[0], line[1], line[4]) for line in lines(house)]
            self.assertEqual(len(set(keys)), len(keys))

    def test_any_trace_is_a_pass_and_rounds(self):
        chance = random.Random(83)
        gone = 0
        for house in self.all_houses():
            names = [house[0][step[0]] for step in filling(house)]
            by_trace = {(line[0], line[1], line[4]): line for line in lines(house)}
            for d, deed in enumerate(house[1]):
                for time in range(4):
                    trace = samples.random_trace(chance, deed[1], chance.choice((1, 3, 10 ** 6)), names)
                    one, goings = taken_apart(deed[1], trace)
                    used = [(1, by_trace[d, None, one])]
                    used += [(many, by_trace[d, number, inner]) for number, many, inner in goings]
                    cost = sum(many * Fraction(*line[2]) for many, line in used)
                    effect = tuple(sum(many * line[3][j] for many, line in used) for j in range(len(house[0])))
                    self.assertEqual(tally(house, d, trace)[:2], (samples.pair(cost), effect))
                    gone += len(goings)
        self.assertGreater(gone, 3000)

    def test_taken_apart_are_gone_back_to(self):
        """The parts of a trace have as many rows as it comes to, but for the oftens' rows come back to."""
        chance = random.Random(84)
        for house in samples.houses_let_by(80, 85):
            for d, deed in enumerate(house[1]):
                trace = samples.random_trace(chance, deed[1])
                one, goings = taken_apart(deed[1], trace)
                oftens = samples.oftens_in(deed[1])
                full = (FULL,) * len(house[0])
                rows = len(walked(house, full, d, one, 10 ** 6))
                for number, many, inner in goings:
                    alone = (house[0], (("gone", oftens[number][1]),))
                    # The end of what is gone is the often's row come back to.
                    rows += many * len(walked(alone, full, 0, inner, 10 ** 6))
                self.assertEqual(rows, len(walked(house, full, d, trace, 10 ** 6)))


class TestLineCount(unittest.TestCase):
    def test_as_many_as_lines(self):
        for house in [row[0] for row in HOUSES] + many_houses() + samples.houses_let_by(300, 86):
            count = line_count(house)
            self.assertIs(type(count), int)
            self.assertEqual(count, len(lines(house)))
            self.assertEqual(count, len(list(lines_walked(house))))

    def test_four_deeds_of_twenty_parts(self):
        chance = random.Random(87)
        counts = []
        while len(counts) < 40:
            house = samples.house_let_by(chance)
            if len(house[1]) == 4 and min(samples.parts_of(deed[1]) for deed in house[1]) > 5:
                counts.append(line_count(house))
                self.assertEqual(counts[-1], len(lines(house)))
        for head in ("either", "take"):
            body = ("often", chain(5, head))
            self.assertEqual(samples.parts_of(body), 20)
            house = (("x",), (("fill", ("put", "x", 1)),) + tuple((name, body) for name in ("a", "b", "c", "d")))
            self.assertEqual(line_count(house), 1 + 4 * 33)
            self.assertEqual(len(lines(house)), 1 + 4 * 33)
        # Not fillable: one way alone through each.
        self.assertEqual(line_count((("x",), (("a", ("often", chain(5, "take"))),))), 2)

    def test_lines_are_not_made(self):
        for head in ("either", "take"):
            house = (("x",), (("fill", ("put", "x", 1)), ("a", chain(70, head)), ("b", ("often", chain(64, head)))))
            self.assertEqual(line_count(house), 1 + 2 ** 70 + 1 + 2 ** 64)

    def test_nothing_is_changed(self):
        for house in samples.rich_houses(30, 88):
            before = repr(house)
            first = (lines(house), line_count(house))
            self.assertEqual((lines(house), line_count(house)), first)
            self.assertEqual(repr(house), before)


if __name__ == "__main__":
    unittest.main()
