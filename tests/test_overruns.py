"""Promises 2, 3 and 29: stories that cost more than what is paid."""

import random
import unittest
from fractions import Fraction

import samples
from dueworth.dues import dues_told
from dueworth.errors import NoStory
from dueworth.lines import lines
from dueworth.overruns import overrun
from dueworth.reader import read_house
from dueworth.shares import shown_by
from dueworth.stories import is_story, story_tally
from fillings import houses_of_lines
from ledgers import random_shares
from samples import pair, story_parts
from sums import dot, wholes, worth, worths
from walking import told_by_doings

MILLION = 10 ** 6
NOUGHT = (0, 1)
# The least by which two fractions of bottoms to 2,520 lie apart, and less.
LITTLE = (Fraction(1, 2520), Fraction(1, 2520 * 2519), Fraction(1, 10 ** 30))

MILL = read_house("jars grain\ndeed reap : (put grain 2)\ndeed mill : (often (take grain 3 (pay 6) rest))")
# Its round is only led to behind a take, within another often; what leads there costs nothing.
FAR = read_house(
    "jars x y\ndeed a : (put x 1)\ndeed b : (take x 2 (put y 1) rest)\n"
    "deed c : (often (take y 3 (take x 4 (often (pay 1/9)) rest) (pay 0)))"
)
# Two rounds that go round two jars with just as many, each led to behind a take of a third one.
RING = read_house(
    "jars x y z\ndeed a : (then (put x 1) (put z 1))\ndeed b : (take z 5 (often (take x 1 (put y 1) rest)) rest)\n"
    "deed c : (take z 7 (often (take y 1 (then (put x 1) (pay 1/9)) rest)) rest)"
)


def eithers(bodies):
    """One of some bodies, whichever."""
    if len(bodies) == 1:
        return bodies[0]
    half = len(bodies) // 2
    return ("either", eithers(bodies[:half]), eithers(bodies[half:]))


def parts_within(story):
    """How many parts of a story stand one within another."""
    return max([1 + (parts_within(part[2]) if part[0] == "again" else 0) for part in story], default=0)


def paid_for(counts, prices):
    return dot(counts, worths(prices))


class TestOverrun(unittest.TestCase):
    def assert_overrun(self, house, shares, prices, over):
        story = overrun(house, shares, prices, over)
        self.assertIs(is_story(house, story), True)
        cost, counts, effect, demand = story_tally(house, story)
        self.assertEqual(demand, (0,) * len(house[0]))
        self.assertGreater(worth(cost), paid_for(counts, prices) + over)
        self.assertLessEqual(story_parts(story), 40)
        self.assertLessEqual(parts_within(story), 8)
        self.assertEqual(overrun(house, shares, prices, over), story)
        self.assertLessEqual(samples.kinds_of(story), {"tuple", "str", "int"})
        return story

    def assert_no_story(self, house, shares, prices, over):
        with self.assertRaises(NoStory) as caught:
            overrun(house, shares, prices, over)
        self.assertIs(type(caught.exception), NoStory)

    def prices_below(self, chance, mix, total, little):
        """Prices that come to a little less than a total for a mix; of deeds out of the mix a million each."""
        left = total - little
        prices = [Fraction(MILLION)] * len(mix)
        numbers = [d for d, number in enumerate(mix) if number > 0]
        chance.shuffle(numbers)
        for d in numbers:
            prices[d] = left / mix[d] if d == numbers[-1] else left / mix[d] * chance.choice((0, Fraction(1, 3), 1))
            left -= prices[d] * mix[d]
        return tuple(pair(price) for price in prices)

    def test_just_below(self):
        chance = random.Random(151)
        tried = 0
        for house in houses_of_lines(152):
            mix = tuple(chance.choice((0, 1, 2, 9)) for deed in house[1])
            told = dues_told(house, mix)
            if told[0] == "dues" and worth(told[1]) > 1:
                for little in LITTLE + (Fraction(1),):
                    prices = self.prices_below(chance, mix, worth(told[1]), little)
                    self.assertEqual(paid_for(mix, prices), worth(told[1]) - little)
                    self.assert_overrun(house, told[3], prices, chance.choice((0, 1, MILLION)))
                    tried += 1
                # Just as much and more.
                for little in (Fraction(0), -LITTLE[2], Fraction(-1)):
                    self.assert_no_story(house, told[3], self.prices_below(chance, mix, worth(told[1]), little), 0)
        self.assertGreater(tried, 200)

    def test_boundless(self):
        chance = random.Random(153)
        tried = 0
        for house in houses_of_lines(154) + [RING]:
            told = dues_told(house, (1,) * len(house[1]))
            if told[0] == "boundless":
                for price in (NOUGHT, (MILLION, 1), (MILLION, 2519)):
                    for over in (0, MILLION):
                        self.assert_overrun(house, told[1], (price,) * len(house[1]), over)
                        tried += 1
                prices = tuple(samples.random_fraction(chance) for deed in house[1])
                self.assert_overrun(house, told[1], prices, chance.randint(0, MILLION))
        self.assertGreater(tried, 200)

    def test_any_shares(self):
        """Shares that are not told, but show something: of many lines, and dearer than need be."""
        chance = random.Random(155)
        found = {True: 0, False: 0}
        for house in houses_of_lines(156):
            for time in range(3):
                shares = random_shares(chance, house)
                shown = shown_by(house, shares)
                prices = tuple(samples.random_fraction(chance, 9) for deed in house[1])
                if chance.random() < 0.3:
                    prices = (NOUGHT,) * len(prices)
                over = chance.choice((0, 1, MILLION))
                if shown is not None and dot(worths(shown[0]), worths(prices)) < worth(shown[1]):
                    self.assert_overrun(house, shares, prices, over)
                    found[True] += 1
                else:
                    self.assert_no_story(house, shares, prices, over)
                    found[False] += 1
        self.assertGreater(min(found.values()), 100)

    def test_all_lines_at_once(self):
        """A share of each of 24 lines: the story has few parts all the same."""
        body = eithers([("pay", (cost, 7)) for cost in range(1, 9)])
        house = (("x",), (
            ("a", body), ("b", ("often", ("then", ("put", "x", 1), body))),
            ("c", ("take", "x", 1, ("pay", (1, 1)), samples.REST)), ("d", ("either", ("put", "x", 2), samples.REST)),
            ("e", ("often", ("take", "x", 2, ("pay", (1, 1)), samples.REST))),
        ))
        shares = ((1, 3),) * len(lines(house))
        self.assertEqual(len(shares), 24)
        self.assert_overrun(house, shares, ((1, 2),) * 5, MILLION)

    def test_a_round_that_another_deed_has(self):
        # Three reapings bring grain for two rounds, though no milling is in the mix.
        shares = dues_told(MILL, (3, 0))[3]
        self.assertEqual(shown_by(MILL, shares), (wholes((3, 0)), (12, 1)))
        for price, over in (((0, 1), 0), ((3, 1), MILLION), ((3999999, MILLION), 0), ((3999999, MILLION), MILLION)):
            story = self.assert_overrun(MILL, shares, (price, (MILLION, 1)), over)
            self.assertGreater(story_tally(MILL, story)[1][1], 0)
        self.assert_no_story(MILL, shares, ((4, 1), NOUGHT), 0)
        self.assert_no_story(MILL, shares, ((4, 1), (MILLION, 1)), MILLION)
        self.assert_no_story(MILL, shares, ((MILLION, 1), NOUGHT), 0)

    def test_rounds_only_led_to_behind_a_take(self):
        found = lines(FAR)
        place = [number for number, line in enumerate(found) if line[:3] == (2, 1, (1, 9))][0]
        shares = tuple((1, 2520) if number == place else NOUGHT for number in range(len(found)))
        self.assertEqual(shown_by(FAR, shares), (wholes((0, 0, 0)), (1, 22680)))
        for prices in (wholes((0, 0, 0)), wholes((1, 2, 3)), wholes((MILLION,) * 3), ((1, 2519), NOUGHT, (MILLION, 1))):
            for over in (0, 1, MILLION):
                self.assert_overrun(FAR, shares, prices, over)

    def test_a_ring_led_to_behind_takes(self):
        told = dues_told(RING, (0, 0, 0))
        self.assertEqual(told[0], "boundless")
        for prices in (wholes((0, 0, 0)), wholes((MILLION,) * 3), wholes((0, MILLION, 0))):
            for over in (0, MILLION):
                self.assert_overrun(RING, told[1], prices, over)

    def test_told_doing_by_doing(self):
        """Stories of small sums, told from empty jars."""
        for house, mix, prices in ((MILL, (3, 0), ((3, 1), NOUGHT)), (FAR, (0, 0, 0), wholes((0, 0, 0)))):
            shares = dues_told(house, mix)[-1]
            story = self.assert_overrun(house, shares, prices, 0)
            doings = told_by_doings(house, (0,) * len(house[0]), story, 10 ** 5)
            self.assertIs(type(doings), list)
            counts = [len([doing for doing in doings if doing[0] == d]) for d in range(len(house[1]))]
            self.assertGreater(worth(doings[-1][2]), paid_for(counts, prices))

    def test_no_story(self):
        shares = dues_told(MILL, (3, 0))[3]
        prices = wholes((0, 0))
        for other in (
            (), shares[1:], shares + (NOUGHT,), (NOUGHT,) * len(shares), ((-1, 2520),) + shares[1:],
            # Less grain than the rounds take.
            (pair(worth(shares[0]) - LITTLE[0]),) + shares[1:],
        ):
            for over in (0, MILLION):
                self.assert_no_story(MILL, other, prices, over)
        free = read_house("jars x\ndeed a : (often (put x 1))\ndeed b : (take x 1 (pay 0) rest)")
        for share in (NOUGHT, (1, 1), (MILLION, 1)):
            self.assert_no_story(free, (share,) * len(lines(free)), wholes((0, 0)), 0)

    def test_what_was_told_is_handed_on(self):
        """Shares and prices of whatever size."""
        shares = tuple(pair(share * Fraction(10 ** 40, 3 ** 50)) for share in worths(dues_told(MILL, (3, 0))[3]))
        price = pair(4 - Fraction(1, 7 ** 40))
        self.assert_overrun(MILL, shares, (price, (10 ** 30, 1)), MILLION)
        self.assert_no_story(MILL, shares, ((4, 1), (10 ** 30, 1)), MILLION)

    def test_nothing_is_changed(self):
        shares = dues_told(MILL, (3, 1))[3]
        prices = wholes((1, 0))
        before = repr((MILL, shares, prices))
        overrun(MILL, shares, prices, 5)
        self.assertEqual(repr((MILL, shares, prices)), before)


if __name__ == "__main__":
    unittest.main()
