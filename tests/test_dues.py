"""Promises 2, 3 and 28: dues told for a mix."""

import itertools
import random
import unittest
from fractions import Fraction

import samples
from dueworth.dues import dues_told
from dueworth.lines import lines
from dueworth.papers import paper_by, paper_holds
from dueworth.reader import read_house
from dueworth.shares import shown_by
from fillings import houses_of_lines
from ledgers import holds, random_worths
from samples import pair
from sums import are_fractions, dot, is_fraction, wholes, worth, worths

NOUGHT = (0, 1)

MILL = "jars grain\ndeed reap : (put grain 2)\ndeed mill : (often (take grain 3 (pay 6) rest))"
BANK = "jars coin\ndeed save : (either (put coin 1) rest)\ndeed spend : (take coin 4 (pay 10) (pay 1))"

# A house's text, a mix, and the sum, or None where it is boundless.
SUMS = (
    ("jars\ndeed a : rest", (9,), 0),
    ("jars\ndeed a : (pay 1/2)", (3,), Fraction(3, 2)),
    ("jars\ndeed a : (either (pay 1/2) (then (pay 1/3) (pay 1/4)))", (1,), Fraction(7, 12)),
    ("jars\ndeed a : (pay 1)\ndeed b : (pay 7)", (3, 2), 17),
    ("jars\ndeed a : (pay 1)\ndeed b : (pay 7)", (0, 0), 0),
    ("jars\ndeed a : (often (pay 0))", (4,), 0),
    ("jars\ndeed a : (often (pay 1/9))", (4,), None),
    ("jars\ndeed a : (often (pay 1/9))", (0,), None),
    ("jars\ndeed a : (pay 1)\ndeed b : (often (often (either rest (pay 1))))", (1, 0), None),
    # What is brought in by one deed is used by another one.
    (BANK, (4, 1), 10),
    (BANK, (8, 1), 10),
    (BANK, (2, 1), Fraction(11, 2)),
    (BANK, (9, 9), 9 + Fraction(81, 4)),
    (BANK, (0, 3), 3),
    (BANK, (9, 0), 0),
    # Rounds of a deed that the mix hasn't.
    (MILL, (3, 0), 12),
    (MILL, (3, 9), 12),
    (MILL, (1, 0), 4),
    (MILL, (0, 9), 0),
    ("jars x\ndeed a : (put x 2)\ndeed b : (take x 1 (often (take x 1 (pay 3) rest)) rest)", (5, 0), 30),
    # Behind a take of a jar that isn't fillable nothing costs.
    ("jars x\ndeed a : (take x 1 (pay 999) (pay 1))", (3,), 3),
    ("jars x\ndeed a : (take x 1 (often (pay 999)) (pay 1))", (3,), 3),
    ("jars x y\ndeed a : (put y 1)\ndeed b : (take y 1 (take x 1 (pay 999) (pay 5)) (pay 1))", (2, 3), 11),
    # Things brought in a round without end, used by what is done so many times, or again and again.
    ("jars x\ndeed a : (often (put x 1))\ndeed b : (take x 9 (pay 5) rest)", (0, 3), 15),
    ("jars x\ndeed a : (often (put x 1))\ndeed b : (often (take x 9 (pay 5) rest))", (0, 0), None),
    ("jars x\ndeed a : (often (put x 1))\ndeed b : (often (take x 9 (pay 0) rest))", (5, 5), 0),
    # In a deed's own course.
    ("jars x\ndeed a : (then (take x 2 (pay 6) rest) (put x 1))", (4,), 12),
    ("jars x\ndeed a : (then (put x 3) (then (take x 1 (pay 1) rest) (take x 5 (pay 9) rest)))", (2,), Fraction(54, 5)),
)


def go_round(jar, take, other, put, cost):
    return f"(often (take {jar} {take} (then (put {other} {put}) (pay {cost})) rest))"


def rounds_of_two_jars(bring, there, back, costs, one_deed):
    """A house that brings things into x, takes of x and brings into y, and takes of y and brings into x."""
    first = go_round("x", there[0], "y", there[1], costs[0])
    second = go_round("y", back[0], "x", back[1], costs[1])
    begin = f"deed a : (put x {bring})" if bring else "deed a : rest"
    others = f"deed b : (then {second} {first})" if one_deed else f"deed b : {first}\ndeed c : {second}"
    return read_house(f"jars x y\n{begin}\n{others}")


def all_costs(body, change):
    """A body with each cost changed."""
    if body[0] == "pay":
        return ("pay", pair(change(worth(body[1]))))
    sides = samples.sides_of(body)
    return body[:len(body) - len(sides)] + tuple(all_costs(side, change) for side in sides)


def with_costs(house, change):
    return (house[0], tuple((name, all_costs(body, change)) for name, body in house[1]))


class DuesCase(unittest.TestCase):
    def assert_told(self, house, mix):
        """What is told is right by sums of the test's own; told is the sum, or None where it is boundless."""
        told = dues_told(house, mix)
        self.assertIs(type(told), tuple)
        self.assertEqual(dues_told(house, mix), told)
        shares = told[-1]
        self.assertTrue(are_fractions(shares))
        shown = shown_by(house, shares)
        if told[0] == "boundless":
            self.assertEqual(len(told), 2)
            self.assertEqual(shown[0], (NOUGHT,) * len(mix))
            self.assertGreater(worth(shown[1]), 0)
            return None
        self.assertEqual((told[0], len(told)), ("dues", 4))
        paper = told[2]
        self.assertTrue(is_fraction(told[1]))
        self.assertIs(paper_holds(house, paper), True)
        self.assertIs(holds(house, paper), True)
        self.assertTrue(are_fractions(paper[0]) and all(are_fractions(deed) for deed in paper[1]))
        self.assertEqual(dot([worth(deed[0]) for deed in paper[1]], mix), worth(told[1]))
        self.assertEqual(shown, (wholes(mix), told[1]))
        return worth(told[1])


class TestDues(DuesCase):
    def test_sums_known_ahead(self):
        for text, mix, total in SUMS:
            with self.subTest(text=text, mix=mix):
                self.assertEqual(self.assert_told(read_house(text), mix), total)

    def test_many_houses(self):
        chance = random.Random(131)
        found = {True: 0, False: 0}
        for house in houses_of_lines(132):
            # Boundless for all mixes of a house or for none.
            bounded = set()
            for numbers in ((0,), (9,), (0, 1), (0, 1, 2, 9)):
                mix = tuple(chance.choice(numbers) for deed in house[1])
                total = self.assert_told(house, mix)
                bounded.add(total is None)
                if total is not None and numbers == (0,):
                    self.assertEqual(total, 0)
            self.assertEqual(len(bounded), 1)
            found[bounded.pop()] += 1
        self.assertGreater(min(found.values()), 30)

    def test_two_rounds_of_two_jars(self):
        numbers = (1, 2, 3)
        for there in itertools.product(numbers, repeat=2):
            for back in itertools.product(numbers, repeat=2):
                for bring, costs in itertools.product((0, 2), (("0", "0"), ("1", "0"), ("0", "5/2"), ("1", "5/2"))):
                    one_deed = (sum(there) + sum(back)) % 2 == 0
                    house = rounds_of_two_jars(bring, there, back, costs, one_deed)
                    mix = (3, 0, 1)[:len(house[1])]
                    self.assertEqual(self.assert_told(house, mix), self.around(bring * 3, there, back, costs))

    def around(self, brought, there, back, costs):
        """The sum of going round with so many things, or None where that is without end."""
        costs = [Fraction(cost) for cost in costs]
        if not brought or not any(costs):
            return 0
        come_back = Fraction(there[1], back[0]) * back[1]
        if come_back >= there[0]:
            return None
        first = Fraction(brought) / (there[0] - come_back)
        return first * costs[0] + first * Fraction(there[1], back[0]) * costs[1]

    def test_just_as_many_one_more_one_fewer(self):
        for one_deed in (True, False):
            for back, total in ((8, Fraction(3 * 9, 9 - 8)), (9, None)):
                house = rounds_of_two_jars(1, (9, 1), (1, back), ("0", "9"), one_deed)
                self.assertEqual(self.assert_told(house, (3, 0, 0)[:len(house[1])]), total)
            for fewer, total in ((4, None), (5, None), (6, Fraction(6))):
                house = rounds_of_two_jars(1, (fewer, 5), (1, 1), ("2", "0"), one_deed)
                self.assertEqual(self.assert_told(house, (3, 9, 9)[:len(house[1])]), total)

    def test_no_paper_that_holds_has_less(self):
        chance = random.Random(133)
        tried = 0
        for house in houses_of_lines(134):
            mix = tuple(chance.randint(0, 9) for deed in house[1])
            total = self.assert_told(house, mix)
            for most in (1, 1, 9, 999, 10 ** 6):
                told = paper_by(house, random_worths(chance, house, most))
                if total is None:
                    self.assertEqual(told[0], "round")
                elif told[0] == "paper":
                    self.assertGreaterEqual(dot([worth(deed[0]) for deed in told[1][1]], mix), total)
                    tried += 1
        self.assertGreater(tried, 200)

    def test_what_was_told_is_handed_on(self):
        for house in houses_of_lines(135)[:120]:
            told = dues_told(house, (3,) * len(house[1]))
            if told[0] == "dues":
                by = paper_by(house, told[2][0])
                self.assertEqual(by[0], "paper")
                self.assertIs(paper_holds(house, by[1]), True)
                doubled = tuple(pair(2 * share) for share in worths(told[3]))
                self.assertEqual(shown_by(house, doubled), (wholes((6,) * len(house[1])), pair(2 * worth(told[1]))))

    def test_nothing_is_changed(self):
        for house in houses_of_lines(136)[:120]:
            mix = (2,) * len(house[1])
            before = repr((house, mix))
            self.assertLessEqual(samples.kinds_of(dues_told(house, mix)), {"tuple", "int", "str"})
            self.assertEqual(repr((house, mix)), before)

    def test_one_share_for_each_line(self):
        for house in houses_of_lines(137)[:120]:
            self.assertEqual(len(dues_told(house, (1,) * len(house[1]))[-1]), len(lines(house)))


class TestSums(DuesCase):
    def bounded(self, seed):
        """Houses that aren't boundless, each with two mixes."""
        chance = random.Random(seed)
        for house in houses_of_lines(seed):
            one, other = [tuple(chance.choice((0, 1, 2, 4)) for deed in house[1]) for mix in range(2)]
            if dues_told(house, one)[0] == "dues":
                yield house, one, other

    def test_two_mixes_together(self):
        more = 0
        for house, one, other in self.bounded(141):
            both = tuple(a + b for a, b in zip(one, other))
            apart = self.assert_told(house, one) + self.assert_told(house, other)
            together = self.assert_told(house, both)
            self.assertGreaterEqual(together, apart)
            more += together > apart
        self.assertGreater(more, 5)

    def test_so_many_times(self):
        for house, one, other in self.bounded(142):
            total = self.assert_told(house, one)
            self.assertEqual(self.assert_told(house, tuple(2 * number for number in one)), 2 * total)
            self.assertEqual(self.assert_told(house, tuple(0 for number in one)), 0)
            small = tuple(min(number, 1) for number in one)
            self.assertEqual(self.assert_told(house, tuple(9 * n for n in small)), 9 * self.assert_told(house, small))

    def test_with_all_costs_so_many_times(self):
        for house, one, other in self.bounded(143):
            total = self.assert_told(house, one)
            for many in (2, Fraction(1, 3), 7):
                self.assertEqual(self.assert_told(with_costs(house, lambda cost: cost * many), one), total * many)

    def test_without_costs(self):
        for house in houses_of_lines(144):
            self.assertEqual(self.assert_told(with_costs(house, lambda cost: 0 * cost), (9,) * len(house[1])), 0)


if __name__ == "__main__":
    unittest.main()
