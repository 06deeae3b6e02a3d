"""Promises 2 and 27: what shares of lines show."""

import random
import unittest
from fractions import Fraction

import samples
from dueworth.lines import lines
from dueworth.papers import paper_by
from dueworth.reader import read_house
from dueworth.shares import shown_by
from dueworth.weighing import weighed
from fillings import houses_of_lines
from ledgers import columns_of, random_shares, random_worths
from samples import pair
from sums import are_fractions, dot, is_fraction, wholes, worth, worths

NOUGHT = (0, 1)
HALF = (1, 2)
LITTLE = (1, 2520)

# Lines: a brings one thing; b takes two and costs 3, or costs 1; the round of c takes one and costs 5, or costs nothing.
THREE = read_house(
    "jars x\ndeed a : (put x 1)\ndeed b : (take x 2 (pay 3) (pay 1))\ndeed c : (often (take x 1 (pay 5) rest))"
)

# Shares, and what they show of it.
SHOWN = (
    ((0, 0, 0, 0, 0, 0), ((0, 0, 0), 0)),
    ((1, 0, 0, 0, 0, 0), ((1, 0, 0), 0)),
    ((0, 1, 0, 0, 0, 0), None),
    ((1, 1, 0, 0, 0, 0), None),
    ((2, 1, 0, 0, 0, 0), ((2, 1, 0), 3)),
    ((3, 1, 4, 0, 0, 0), ((3, 5, 0), 7)),
    ((0, 0, 0, 7, 0, 0), ((0, 0, 7), 0)),
    ((0, 0, 0, 0, 1, 0), None),
    ((1, 0, 0, 0, 1, 0), ((1, 0, 0), 5)),
    ((1, 0, 0, 0, 1, 9), ((1, 0, 0), 5)),
    ((1, 0, 0, 2, 1, 9), ((1, 0, 2), 5)),
    ((2, 0, 0, 0, 3, 0), None),
    ((9, 2, 1, 4, 5, 6), ((9, 3, 4), 32)),
    ((9, 2, 1, 4, 6, 6), None),
    ((-1, 0, 0, 0, 0, 0), None),
    ((9, -1, 0, 0, 0, 0), None),
    ((9, 0, 0, -1, 0, 0), None),
    ((9, 0, 0, 0, -1, 0), None),
    ((9, 0, 0, 0, 0, -1), None),
    ((), None),
    ((0, 0, 0, 0, 0), None),
    ((0, 0, 0, 0, 0, 0, 0), None),
)


def shown(house, shares):
    """What shares show, by the words of the promise."""
    found = lines(house)
    if len(shares) != len(found) or any(worth(share) < 0 for share in shares):
        return None
    amounts = worths(shares)
    for jar in range(len(house[0])):
        if dot([line[3][jar] for line in found], amounts) < 0:
            return None
    mix = [Fraction(0)] * len(house[1])
    for line, amount in zip(found, amounts):
        if line[1] is None:
            mix[line[0]] += amount
    cost = dot([worth(line[2]) for line in found], amounts)
    return tuple(pair(number) for number in mix), pair(cost)


class TestShownBy(unittest.TestCase):
    def assert_shown(self, house, shares):
        told = shown_by(house, shares)
        self.assertEqual(told, shown(house, shares))
        self.assertEqual(shown_by(house, shares), told)
        if told is not None:
            self.assertEqual((type(told), len(told)), (tuple, 2))
            self.assertTrue(are_fractions(told[0]))
            self.assertTrue(is_fraction(told[1]))
            self.assertEqual(len(told[0]), len(house[1]))
        return told

    def test_told(self):
        for shares, found in SHOWN:
            with self.subTest(shares=shares):
                expected = found if found is None else (wholes(found[0]), (found[1], 1))
                self.assertEqual(self.assert_shown(THREE, wholes(shares)), expected)

    def test_fractions(self):
        for shares, found in (
            (((1, 3), (1, 6), HALF, (2, 7), NOUGHT, (5, 9)), (((1, 3), (2, 3), (2, 7)), (1, 1))),
            (((1, 3), (1, 6), HALF, (2, 7), LITTLE, (5, 9)), None),
            (((1, 2520), NOUGHT, NOUGHT, NOUGHT, LITTLE, NOUGHT), (((1, 2520), NOUGHT, NOUGHT), (1, 504))),
            (((1, 2520), NOUGHT, NOUGHT, NOUGHT, (1, 2519), NOUGHT), None),
            (((10 ** 6, 1), ((10 ** 6, 3)), NOUGHT, NOUGHT, (10 ** 6, 3), NOUGHT),
             (((10 ** 6, 1), (10 ** 6, 3), NOUGHT), (8 * 10 ** 6, 3))),
        ):
            self.assertEqual(self.assert_shown(THREE, shares), found)

    def test_many_houses(self):
        chance = random.Random(122)
        found = {True: 0, False: 0}
        for house in houses_of_lines(121):
            for time in range(3):
                found[self.assert_shown(house, random_shares(chance, house)) is None] += 1
        self.assertGreater(min(found.values()), 100)

    def test_noughts(self):
        for house in houses_of_lines(121):
            shares = (NOUGHT,) * len(lines(house))
            self.assertEqual(self.assert_shown(house, shares), ((NOUGHT,) * len(house[1]), NOUGHT))
            for other in (shares + (NOUGHT,), shares[1:], ()):
                self.assertIs(self.assert_shown(house, other), None)

    def test_a_share_below_nought(self):
        chance = random.Random(123)
        for house in houses_of_lines(121):
            shares = random_shares(chance, house)
            for place in range(len(shares)):
                other = shares[:place] + ((-1, 2520),) + shares[place + 1:]
                self.assertIs(self.assert_shown(house, other), None)

    def test_one_share_more_or_fewer(self):
        chance = random.Random(124)
        for house in houses_of_lines(121):
            shares = random_shares(chance, house)
            for other in (shares + (NOUGHT,), (HALF,) + shares, shares[:-1], shares[1:]):
                self.assertIs(self.assert_shown(house, other), None)

    def test_just_as_much_as_there_is(self):
        """Of each jar by itself a little less than nought."""
        house = read_house("jars w x y z\ndeed a : (put w 1)\ndeed b : (put x 1)\ndeed c : (put y 1)\ndeed d : "
                           "(then (put z 1) (take w 1 (take x 1 (take y 1 (take z 1 (pay 1) rest) rest) rest) rest))")
        found = lines(house)
        all_taken = [place for place, line in enumerate(found) if line[2] == (1, 1)]
        self.assertEqual(len(all_taken), 1)
        shares = [(1, 1), (1, 1), (1, 1)] + [NOUGHT] * (len(found) - 3)
        shares[all_taken[0]] = (1, 1)
        self.assertEqual(self.assert_shown(house, tuple(shares)), (wholes((1, 1, 1, 1)), (1, 1)))
        for place in range(3):
            less = shares[:place] + [(2519, 2520)] + shares[place + 1:]
            self.assertIs(self.assert_shown(house, tuple(less)), None)

    def test_no_paper_that_holds_has_less(self):
        chance = random.Random(125)
        tried = 0
        for house in houses_of_lines(121):
            mix = tuple(chance.randint(0, 9) for deed in house[1])
            told = weighed(columns_of(house), mix)
            for shares in (told[2 if told[0] == "most" else 1], random_shares(chance, house)):
                seen = self.assert_shown(house, shares)
                for most in (1, 999, 10 ** 6):
                    by = paper_by(house, random_worths(chance, house, most))
                    if by[0] == "paper" and seen is not None:
                        dues = [worth(deed[0]) for deed in by[1][1]]
                        self.assertGreaterEqual(dot(dues, worths(seen[0])), worth(seen[1]))
                        tried += 1
        self.assertGreater(tried, 200)

    def test_what_was_told_is_handed_on(self):
        """Shares put together of shares that were told, of whatever size."""
        shares = weighed(columns_of(THREE), (7, 3, 2))[2]
        for time in range(30):
            shares = tuple(pair(worth(one) * Fraction(10 ** 6, 2519)) for one in shares)
        self.assertIsNotNone(self.assert_shown(THREE, shares))

    def test_nothing_is_changed(self):
        chance = random.Random(126)
        for house in houses_of_lines(121):
            shares = random_shares(chance, house)
            before = repr((house, shares))
            told = shown_by(house, shares)
            self.assertLessEqual(samples.kinds_of(told), {"tuple", "int", "NoneType"})
            self.assertEqual(repr((house, shares)), before)


if __name__ == "__main__":
    unittest.main()
