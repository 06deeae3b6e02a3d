"""Promises 2 and 20: stories that fill jars."""

import itertools
import random
import unittest

import samples
from dueworth.errors import NoStory
from dueworth.filled import filled
from dueworth.filling import filling
from dueworth.reader import read_house
from dueworth.stories import is_story, story_tally
from dueworth.tellings import told
from fillings import HOUSES, many_houses
from samples import story_parts
from walking import told_by_doings

BILLION = 10 ** 9

CHAIN = read_house(
    "jars w x y z\ndeed a : (take x 9 (put w 1) rest)\ndeed b : (take y 9 (put x 1) rest)\n"
    "deed c : (take z 9 (put y 1) rest)\ndeed d : (put z 1)"
)
# One deed of all: y takes things of x in the very doing that brings some in, z takes of both.
TANGLE = read_house(
    "jars x y z\ndeed a : (then (put x 2) (take x 3 (then (put y 1) (take y 2 (take x 1 (put z 5) rest) rest)) rest))"
)


class TestFilled(unittest.TestCase):
    def assert_filled(self, house, counts):
        story = filled(house, counts)
        self.assertIs(is_story(house, story), True)
        cost, deeds, effect, demand = story_tally(house, story)
        self.assertEqual(demand, (0,) * len(house[0]))
        for brought, count in zip(effect, counts):
            self.assertGreaterEqual(brought, count)
        self.assertLessEqual(story_parts(story), 40)
        self.assertLessEqual(samples.kinds_of(story), {"tuple", "str", "int"})
        self.assertEqual(filled(house, counts), story)
        return story

    def assert_no_story(self, house, counts):
        with self.assertRaises(NoStory) as caught:
            filled(house, counts)
        self.assertIs(type(caught.exception), NoStory)

    def test_all_counts(self):
        for house, names, rows in HOUSES:
            for counts in itertools.product((0, 1, 7, BILLION), repeat=len(house[0])):
                if all(count == 0 or jar in names for jar, count in zip(house[0], counts)):
                    self.assert_filled(house, counts)
                else:
                    self.assert_no_story(house, counts)

    def test_many_houses(self):
        chance = random.Random(75)
        refused = 0
        for house in many_houses() + samples.houses_let_by(200, 76):
            fillable = [step[0] for step in filling(house)]
            for time in range(3):
                counts = [chance.choice((0, 1, 3, 1000, BILLION)) for jar in house[0]]
                if any(count > 0 and jar not in fillable for jar, count in enumerate(counts)):
                    self.assert_no_story(house, tuple(counts))
                    refused += 1
                self.assert_filled(house, tuple(n if jar in fillable else 0 for jar, n in enumerate(counts)))
        self.assertGreater(refused, 100)

    def test_told_from_empty_jars(self):
        chance = random.Random(77)
        brought = 0
        for house in [row[0] for row in HOUSES] + [TANGLE] + samples.houses_let_by(100, 78, things=2):
            fillable = [step[0] for step in filling(house)]
            counts = tuple(chance.randint(0, 4) if jar in fillable else 0 for jar in range(len(house[0])))
            story = self.assert_filled(house, counts)
            doings = told(house, (0,) * len(counts), story, 10 ** 5)
            self.assertEqual(doings, told_by_doings(house, (0,) * len(counts), story, 10 ** 5))
            if doings:
                self.assertTrue(all(held >= count for held, count in zip(doings[-1][1], counts)))
                brought += 1
        self.assertGreater(brought, 50)

    def test_where_bringing_one_takes_things_of_another_one(self):
        for counts in ((1, 0, 0, 0), (1, 1, 1, 1), (0, 1, 0, BILLION), (BILLION,) * 4, (BILLION, 0, 0, 0)):
            self.assert_filled(CHAIN, counts)
        deeds = story_tally(CHAIN, filled(CHAIN, (BILLION,) * 4))[1]
        self.assertGreaterEqual(deeds[3], BILLION * (1 + 9 + 81 + 729))
        for counts in itertools.product((0, 1, 2, 100, BILLION), repeat=3):
            self.assert_filled(TANGLE, counts)

    def test_few_parts(self):
        for house, names, rows in HOUSES:
            fillable = tuple(BILLION if jar in names else 0 for jar in house[0])
            self.assertLessEqual(story_parts(filled(house, fillable)), 8)
        self.assertLessEqual(story_parts(filled(CHAIN, (BILLION,) * 4)), 8)

    def test_nought_of_all(self):
        for house in [row[0] for row in HOUSES] + many_houses():
            self.assert_filled(house, (0,) * len(house[0]))

    def test_no_story(self):
        house = read_house("jars x y z\ndeed a : (take x 1 (put x 9) (put y 1))")
        for counts in ((1, 0, 0), (0, 0, 1), (BILLION, 0, 0), (1, 1, 0), (1, 1, 1), (0, BILLION, 1)):
            self.assert_no_story(house, counts)
            self.assert_no_story(house, counts)
        self.assert_filled(house, (0, BILLION, 0))
        self.assert_filled(house, (0, 0, 0))

    def test_nothing_is_changed(self):
        before = repr((CHAIN, TANGLE))
        counts = (1, 2, 3, 4)
        filled(CHAIN, counts)
        filled(TANGLE, (1, 2, 3))
        self.assertEqual(repr((CHAIN, TANGLE)), before)
        self.assertEqual(counts, (1, 2, 3, 4))


if __name__ == "__main__":
    unittest.main()
