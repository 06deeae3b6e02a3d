"""Promises 2, 3, 13, 25 and 26: papers."""

import random
import unittest
from fractions import Fraction

import samples
from dueworth.charts import chart
from dueworth.lines import lines
from dueworth.papers import paper_by, paper_holds
from dueworth.reader import read_house
from dueworth.rows import rows_come_to
from fillings import houses_of_lines
from ledgers import doings_from_empty, gaining, holds, least_lefts, more, random_worths, with_left
from sums import are_fractions, dot, wholes, worth, worths

NOUGHT = (0, 1)
LITTLE = Fraction(1, 2520 * 10 ** 6)

# A house's text, worths, and the lefts of the least paper.
LEAST = (
    ("jars\ndeed a : rest", (), ((0,),)),
    ("jars\ndeed a : (pay 3)\ndeed b : (then (pay 1) (pay 2))", (), ((3, 0), (3, 2, 0))),
    ("jars\ndeed a : (either (pay 3) (then (pay 1) (pay 4)))", (), ((5, 3, 5, 4, 0),)),
    ("jars\ndeed a : (then (often rest) (pay 2))", (), ((2, 2, 0),)),
    ("jars\ndeed a : (often (pay 0))", (), ((0, 0, 0),)),
    ("jars x\ndeed a : (put x 4)", (2,), ((8, 0),)),
    ("jars x\ndeed a : (put x 4)", (0,), ((0, 0),)),
    # Taken: what is worth more than what it leads to asks for nothing.
    ("jars x\ndeed a : (take x 2 (pay 5) (put x 1))", (1,), ((3, 5, 1, 0),)),
    ("jars x\ndeed a : (take x 2 (pay 5) (put x 1))", (3,), ((3, 5, 3, 0),)),
    ("jars x\ndeed a : (take x 2 (pay 5) (put x 1))", (0,), ((5, 5, 0, 0),)),
    # Of a jar that isn't fillable nothing is asked, nor of what stands behind it.
    ("jars x\ndeed a : (take x 2 (pay 5) (pay 1))", (1,), ((1, 0, 1, 0),)),
    ("jars x\ndeed a : (then (take x 1 (often (pay 9)) rest) (pay 1))", (7,), ((1, 0, 0, 1, 0),)),
    # An often is as dear as what comes behind it, where no round gains.
    ("jars x\ndeed a : (then (put x 2) (then (often (take x 1 (pay 3) rest)) (pay 1)))", (3,), ((7, 1, 1, 4, 1, 0),)),
    ("jars x\ndeed a : (then (put x 2) (then (often (take x 1 (pay 3) rest)) (pay 1)))", (5,), ((11, 1, 1, 4, 1, 0),)),
    ("jars x y\ndeed a : (put x 1)\ndeed b : (often (take x 2 (put y 1) (take y 3 (pay 6) rest)))",
     (1, 2), ((1, 0), (0, 0, 2, 0, 6, 0))),
)

CHANGE = (
    "jars x y\ndeed a : (put x 1)\ndeed b : (often (take x 1 (put y 2) rest))\n"
    "deed c : (often (take y 1 (pay 1) rest))"
)

# A house's text, worths, and d, number and trace of the first round that gains.
FIRST_ROUNDS = (
    ("jars\ndeed a : (often (pay 1))", (), (0, 0, ())),
    ("jars\ndeed a : (pay 1)\ndeed b : (often (either (pay 0) (pay 1)))", (), (1, 0, (1, ()))),
    ("jars x\ndeed a : (often (put x 1))", (1,), (0, 0, ())),
    ("jars x\ndeed a : (often (put x 1))", (0,), None),
    ("jars x\ndeed a : (put x 1)\ndeed b : (often (take x 2 (pay 3) rest))", (1,), (1, 0, (0, ()))),
    ("jars x\ndeed a : (put x 1)\ndeed b : (often (take x 2 (pay 3) rest))", (2,), None),
    ("jars x\ndeed a : rest\ndeed b : (often (take x 2 (pay 3) rest))", (0,), None),
    ("jars x\ndeed a : rest\ndeed b : (take x 2 (often (pay 3)) rest)", (0,), None),
    ("jars x\ndeed a : (often (then (often (pay 1)) (pay 1)))", (0,), (0, 0, ((), ()))),
    ("jars x y\ndeed a : (put x 1)\ndeed b : (often (take x 2 (often (put y 1)) (often (take y 3 (pay 1) rest))))",
     (0, 0), (1, 2, (0, ()))),
    ("jars x\ndeed a : (often (then (often (pay 1)) (put x 1)))", (0,), (0, 1, ())),
    (CHANGE, (3, 1), None),
    (CHANGE, (2, 1), None),
    (CHANGE, (1, 1), (1, 0, (0, ()))),
    (CHANGE, (0, 0), (2, 0, (0, ()))),
)


def papers_told(seed):
    """Houses, each with a least paper by some worths."""
    chance = random.Random(seed)
    for house in houses_of_lines(102):
        told = paper_by(house, random_worths(chance, house, chance.choice((1, 999, 10 ** 6))))
        if told[0] == "paper":
            yield house, told[1]


class TestPaperHolds(unittest.TestCase):
    def assert_holds(self, house, paper, expected):
        self.assertIs(paper_holds(house, paper), expected)
        self.assertIs(holds(house, paper), expected)

    def test_least_papers_and_such_with_more_or_less_left(self):
        for text, jar_worths, lefts in LEAST:
            house = read_house(text)
            paper = (wholes(jar_worths), tuple(wholes(some) for some in lefts))
            with self.subTest(text=text):
                self.assert_holds(house, paper, True)
                for d, come_to in enumerate(rows_come_to(house)):
                    for row, left in enumerate(paper[1][d]):
                        less = with_left(paper, d, row, more(left, -LITTLE))
                        self.assert_holds(house, less, row not in come_to)
                        for other in ((10 ** 6, 1), (-(10 ** 6), 1), (0, 1), (-1, 2520)):
                            any_left = with_left(paper, d, row, other)
                            self.assertIs(paper_holds(house, any_left), holds(house, any_left))
                            if row not in come_to:
                                self.assertIs(paper_holds(house, any_left), True)

    def test_each_row_asks_for_just_what_is_told(self):
        """At each kind of row: just enough, a little less, and a little more where one goes on."""
        house = read_house(
            "jars x y\ndeed a : (then (pay 3/2) (then (put x 2) (then (either rest rest) (take x 3 (pay 1) (pay 2)))))\n"
            "deed b : (often (take y 2 (pay 9) rest))"
        )
        # Rows of a: pay 0, put 1, either 2, take 3, pay 4, pay 5, end 6; of b: often 0, take 1, pay 2, end 3.
        half = Fraction(1, 2)
        deed = (half * 3 + 7, Fraction(7), Fraction(4), Fraction(4), Fraction(17, 2), Fraction(4), Fraction(2))
        other = (Fraction(5), Fraction(5), Fraction(-9), Fraction(0))
        lefts = tuple(tuple((one.numerator, one.denominator) for one in some) for some in (deed, other))
        paper = (((3, 2), (0, 1)), lefts)
        self.assert_holds(house, paper, True)
        for d, row, by, expected in (
            (0, 0, -LITTLE, False), (0, 0, LITTLE, True), (0, 1, LITTLE, False), (0, 1, -LITTLE, False),
            (0, 2, LITTLE, False), (0, 2, -LITTLE, False), (0, 3, LITTLE, False), (0, 3, -LITTLE, False),
            # Taken: 4 and three things of 3/2 are 17/2.
            (0, 4, LITTLE, False), (0, 4, -LITTLE, True), (0, 4, Fraction(-11, 2), True), (0, 5, LITTLE, False),
            (0, 5, -LITTLE, False), (0, 6, LITTLE, False), (0, 6, -LITTLE, True), (0, 6, Fraction(-2), True),
            (1, 0, LITTLE, False), (1, 0, -LITTLE, False), (1, 1, LITTLE, False), (1, 1, -LITTLE, False),
            (1, 2, LITTLE, True), (1, 2, Fraction(10 ** 6), True), (1, 2, Fraction(-(10 ** 6)), True),
            (1, 3, Fraction(5), True), (1, 3, 5 + LITTLE, False), (1, 3, -LITTLE, False),
        ):
            with self.subTest(d=d, row=row, by=by):
                self.assert_holds(house, with_left(paper, d, row, more(lefts[d][row], by)), expected)
        # The worth of x is asked for by the put and lent to the take; that of y is asked for by nothing.
        for worths_of, expected in (
            (((3, 2), (10 ** 6, 1)), True), (((1, 1), (0, 1)), False), (((2, 1), (0, 1)), False),
            (((3, 2), (-1, 2520)), False), (((-3, 2), (0, 1)), False),
        ):
            self.assert_holds(house, (worths_of, lefts), expected)

    def test_the_end_is_from_nought_on(self):
        house = read_house("jars\ndeed a : rest\ndeed b : rest")
        for one, other, expected in ((0, 0, True), (1, 0, True), (-1, 0, False), (0, -1, False), (5, 7, True)):
            self.assert_holds(house, ((), (((one, 2520 if one == -1 else 1),), ((other, 1),))), expected)

    def test_an_often_asks_for_both(self):
        house = read_house("jars x\ndeed a : (often (put x 1))")
        for lefts, jar, expected in (
            ((2, 2, 0), 0, True), ((2, 3, 0), 0, False), ((2, 2, 2), 0, True), ((2, 2, 3), 0, False),
            ((0, 0, 0), 1, False), ((2, 3, 0), 1, False), ((3, 2, 0), 1, False), ((9, 9, 0), 1, False),
        ):
            self.assert_holds(house, (((jar, 1),), (wholes(lefts),)), expected)

    def test_not_so_many(self):
        for house, paper in papers_told(103):
            jar_worths, lefts = paper
            self.assert_holds(house, paper, True)
            self.assert_holds(house, (jar_worths + (NOUGHT,), lefts), False)
            self.assert_holds(house, (jar_worths, lefts + ((NOUGHT,),)), False)
            self.assert_holds(house, (jar_worths, lefts + (lefts[-1],)), False)
            self.assert_holds(house, (jar_worths, lefts + ((),)), False)
            self.assert_holds(house, (jar_worths, lefts[:-1]), False)
            self.assert_holds(house, (jar_worths, ()), False)
            for d, deed in enumerate(lefts):
                for other in (deed + (NOUGHT,), (NOUGHT,) + deed, deed[:-1], deed[1:], ()):
                    self.assert_holds(house, (jar_worths, lefts[:d] + (other,) + lefts[d + 1:]), False)
            for jar, one in enumerate(jar_worths):
                ahead, behind = jar_worths[:jar], jar_worths[jar + 1:]
                self.assert_holds(house, (ahead + behind, lefts), False)
                self.assert_holds(house, (ahead + ((-1, 2520),) + behind, lefts), False)

    def test_worths_below_nought_of_jars_of_which_nothing_is_asked(self):
        house = read_house("jars x y\ndeed a : (take y 1 rest (pay 1))")
        lefts = (wholes((1, 1, 0)),)
        for jar_worths, expected in (
            ((0, 0), True), ((5, 7), True), ((-1, 0), False), ((0, -1), False), ((-1, -1), False),
        ):
            self.assert_holds(house, (wholes(jar_worths), lefts), expected)

    def test_a_dearer_paper_holds(self):
        for house, paper in papers_told(104):
            for by in (LITTLE, Fraction(10 ** 6)):
                dearer = tuple(tuple(more(left, by) for left in deed) for deed in paper[1])
                self.assert_holds(house, (paper[0], dearer), True)

    def test_any_papers(self):
        chance = random.Random(105)
        found = {True: 0, False: 0}
        for house, paper in papers_told(106):
            for time in range(6):
                other = paper
                for change in range(chance.randint(1, 3)):
                    d = chance.randrange(len(house[1]))
                    row = chance.randrange(len(paper[1][d]))
                    by = chance.choice((LITTLE, 1, 7, -LITTLE, -1))
                    other = with_left(other, d, row, more(other[1][d][row], by))
                expected = holds(house, other)
                self.assertIs(paper_holds(house, other), expected)
                found[expected] += 1
        self.assertGreater(min(found.values()), 100)


class TestPaperBy(unittest.TestCase):
    def test_least(self):
        for text, jar_worths, lefts in LEAST:
            with self.subTest(text=text):
                house = read_house(text)
                told = paper_by(house, wholes(jar_worths))
                self.assertEqual(told, ("paper", (wholes(jar_worths), tuple(wholes(some) for some in lefts))))

    def test_first_rounds(self):
        for text, jar_worths, key in FIRST_ROUNDS:
            with self.subTest(text=text, worths=jar_worths):
                house = read_house(text)
                told = paper_by(house, wholes(jar_worths))
                if key is None:
                    self.assertEqual(told[0], "paper")
                    self.assertIs(paper_holds(house, told[1]), True)
                else:
                    found = [line for line in lines(house) if (line[0], line[1], line[4]) == key]
                    self.assertEqual(told, ("round", found[0]))

    def assert_paper(self, house, jar_worths, paper):
        self.assertEqual(paper[0], jar_worths)
        self.assertIs(type(paper[1]), tuple)
        self.assertTrue(all(are_fractions(deed) for deed in paper[1]))
        self.assertEqual(paper[1], least_lefts(house, jar_worths))
        self.assertIs(paper_holds(house, paper), True)
        self.assertIs(holds(house, paper), True)
        for d, come_to in enumerate(rows_come_to(house)):
            for row, left in enumerate(paper[1][d]):
                less = with_left(paper, d, row, more(left, -LITTLE))
                self.assertIs(paper_holds(house, less), row not in come_to)
                if row not in come_to:
                    self.assertEqual(left, NOUGHT)

    def assert_round(self, chance, house, jar_worths):
        """No paper holds with these worths, whatever its lefts."""
        charts = [chart(deed[1]) for deed in house[1]]
        for left in ((0, 1), (10 ** 6, 1)):
            self.assertIs(paper_holds(house, (jar_worths, tuple((left,) * len(rows) for rows in charts))), False)
        for time in range(2):
            lefts = tuple(tuple(samples.random_fraction(chance) for row in rows) for rows in charts)
            self.assertIs(paper_holds(house, (jar_worths, lefts)), False)

    def test_many_houses(self):
        chance = random.Random(107)
        found = {"paper": 0, "round": 0}
        for house in houses_of_lines(102):
            for most in (1, 999, 10 ** 6):
                jar_worths = random_worths(chance, house, most)
                first = [line for line in lines(house) if line[1] is not None and gaining(line, jar_worths)][:1]
                told = paper_by(house, jar_worths)
                self.assertEqual((type(told), len(told)), (tuple, 2))
                self.assertEqual(told[0], "round" if first else "paper")
                found[told[0]] += 1
                if first:
                    self.assertEqual(told[1], first[0])
                    self.assert_round(chance, house, jar_worths)
                else:
                    self.assert_paper(house, jar_worths, told[1])
                self.assertEqual(paper_by(house, jar_worths), told)
        self.assertGreater(min(found.values()), 150)

    def test_rounds_that_gain_just_nothing(self):
        """As much as the cost is worth, over 2,520: a little less, and the round gains."""
        house = read_house("jars x y\ndeed a : (put x 1)\ndeed b : (often (take x 7 (pay 1/9) rest))")
        for jar_worths, kind in (
            (((1, 63), NOUGHT), "paper"), (((39, 2520), NOUGHT), "round"), (((41, 2520), NOUGHT), "paper"),
            (((1, 63), (10 ** 6, 1)), "paper"), (((10 ** 6, 1), NOUGHT), "paper"), ((NOUGHT, NOUGHT), "round"),
        ):
            jar_worths = tuple(samples.pair(worth(one)) for one in jar_worths)
            told = paper_by(house, jar_worths)
            self.assertEqual(told[0], kind)
            if kind == "paper":
                self.assert_paper(house, jar_worths, told[1])

    def test_what_was_told_is_handed_on(self):
        """Worths that are lefts told ahead, put together anew, of whatever size."""
        house = read_house("jars x\ndeed a : (then (put x 9) (pay 999/7))\ndeed b : (often (take x 1 (pay 1/9) rest))")
        jar_worths = ((10 ** 6, 2519),)
        for time in range(8):
            told = paper_by(house, jar_worths)
            self.assert_paper(house, jar_worths, told[1])
            jar_worths = (told[1][1][0][0],)
        self.assertGreater(worth(jar_worths[0]), 10 ** 9)

    def test_nothing_is_changed(self):
        for house, paper in papers_told(108):
            before = repr((house, paper))
            self.assertEqual(paper_by(house, paper[0]), ("paper", paper))
            self.assertIs(paper_holds(house, paper), True)
            self.assertEqual(repr((house, paper)), before)
            self.assertLessEqual(samples.kinds_of(paper), {"tuple", "int"})


class TestWhatIsPaidIsEnough(unittest.TestCase):
    def assert_enough(self, chance, house, paper):
        """What was paid, less all costs so far, at each row that a story from empty jars comes to."""
        jar_worths, lefts = paper
        paid = Fraction(0)
        spent = Fraction(0)
        taken = 0
        for d, trace, jars, rows in doings_from_empty(chance, house, 12):
            paid += worth(lefts[d][0])
            for row, held, cost in rows:
                kept = worth(lefts[d][row]) + dot(held, worths(jar_worths))
                self.assertGreaterEqual(kept, 0)
                self.assertGreaterEqual(paid - spent - worth(cost), kept)
                taken += row > 0
            spent += worth(rows[-1][2])
        return taken

    def test_least_papers(self):
        chance = random.Random(109)
        self.assertGreater(sum(self.assert_enough(chance, house, paper) for house, paper in papers_told(110)), 2000)

    def test_whoever_wrote_it(self):
        """Papers that hold, with more left here and there, and any lefts at rows that aren't come to."""
        chance = random.Random(111)
        tried = 0
        for house, paper in papers_told(112):
            come_to = rows_come_to(house)
            for time in range(6):
                d = chance.randrange(len(house[1]))
                row = chance.randrange(len(paper[1][d]))
                by = chance.choice((LITTLE, 1, 1000)) if row in come_to[d] else chance.choice((-1000, 1000))
                other = with_left(paper, d, row, more(paper[1][d][row], by))
                if paper_holds(house, other):
                    paper = other
                    tried += 1
            self.assert_enough(chance, house, paper)
        self.assertGreater(tried, 150)


if __name__ == "__main__":
    unittest.main()
