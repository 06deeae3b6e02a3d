"""Promises 2 and 16: stories told doing by doing."""

import random
import unittest

import samples
from dueworth.errors import Stuck, TooLong
from dueworth.tellings import told
from test_stories import FILL, HOUSE, IDLE, MILL, MILLION, NONE, again, bake
from walking import outcome, told_by_doings

HALF = (1, 2)

# A story, jars, and what is told of it.
TOLD = (
    ((), (3, 4), []),
    ((FILL,), (0, 0), [(0, (2, 0), NONE)]),
    ((FILL,), (1, 10 ** 9), [(0, (3, 10 ** 9), NONE)]),
    ((MILL,), (3, 0), [(1, (0, 1), HALF)]),
    ((IDLE,), (0, 0), [(1, (0, 0), NONE)]),
    ((FILL, FILL, MILL, bake(1)), (0, 0), [
        (0, (2, 0), NONE), (0, (4, 0), NONE), (1, (1, 1), HALF), (2, (1, 0), (5, 6))]),
    ((again(2, FILL, IDLE), MILL), (0, 0), [
        (0, (2, 0), NONE), (1, (2, 0), NONE), (0, (4, 0), NONE), (1, (4, 0), NONE), (1, (1, 1), HALF)]),
    ((again(2, again(2, FILL), MILL),), (0, 0), [
        (0, (2, 0), NONE), (0, (4, 0), NONE), (1, (1, 1), HALF), (0, (3, 1), HALF), (0, (5, 1), HALF),
        (1, (2, 2), (1, 1))]),
    # Goings are not counted.
    ((bake(MILLION),), (0, MILLION), [(2, (0, 0), (MILLION, 3))]),
    ((again(2, bake(MILLION)),), (1, 3 * MILLION), [
        (2, (1, 2 * MILLION), (MILLION, 3)), (2, (1, MILLION), (2 * MILLION, 3))]),
)

# A deed that asks for 5 of x, takes 3 and 2, and brings 9 in behind that.
LOOP = (("x",), (
    ("a", ("take", "x", 3, ("take", "x", 2, ("put", "x", 9), ("rest",)), ("rest",))),
    ("b", ("put", "x", 1)),
))
WHOLE = ("do", 0, (0, (0, ())))
ONE = ("do", 1, ())


class TestTold(unittest.TestCase):
    def assert_too_long(self, house, jars, story, most):
        with self.assertRaises(TooLong) as caught:
            told(house, jars, story, most)
        self.assertIs(type(caught.exception), TooLong)
        self.assertEqual(caught.exception.most, most)

    def assert_stuck(self, house, jars, story, most, row):
        with self.assertRaises(Stuck) as caught:
            told(house, jars, story, most)
        self.assertIs(type(caught.exception), Stuck)
        self.assertEqual(caught.exception.row, row)

    def test_told(self):
        for story, jars, doings in TOLD:
            with self.subTest(story=story):
                for most in (max(1, len(doings)), len(doings) + 1, 2000):
                    self.assertEqual(told(HOUSE, jars, story, most), doings)
                for most in range(1, len(doings)):
                    self.assert_too_long(HOUSE, jars, story, most)

    def test_stuck(self):
        for story, jars, row in (
            ((MILL,), (2, 9), 0), ((FILL, MILL), (0, 0), 1), ((FILL, FILL, MILL, MILL), (0, 0), 3),
            ((MILL, FILL), (0, 0), 0), ((IDLE, bake(2)), (9, 1), 1), ((bake(MILLION),), (0, MILLION - 1), 0),
            ((again(3, FILL, MILL),), (1, 0), 3), ((again(3, FILL, MILL),), (0, 0), 1),
            ((again(2, again(3, FILL), again(2, MILL)), MILL), (0, 0), 10),
            ((again(MILLION, FILL, MILL),), (100, 0), 201),
        ):
            with self.subTest(story=story):
                self.assert_stuck(HOUSE, jars, story, 2000, row)

    def test_stuck_within_but_not_by_its_effect(self):
        self.assertEqual(told(LOOP, (5,), (WHOLE,), 1), [(0, (9,), NONE)])
        for count in range(5):
            self.assert_stuck(LOOP, (count,), (WHOLE,), 9, 0)
        self.assert_stuck(LOOP, (0,), (again(4, ONE), WHOLE), 9, 4)
        self.assertEqual(len(told(LOOP, (0,), (again(5, ONE), again(3, WHOLE)), 9)), 8)

    def test_again_of_many_times_with_a_small_most(self):
        for story in ((again(MILLION, FILL),), (again(MILLION, again(MILLION, FILL, IDLE)),), (again(10 ** 30, FILL),)):
            for most in (1, 2, 7, 2000):
                self.assert_too_long(HOUSE, (0, 0), story, most)
        self.assertEqual(told(HOUSE, (0, 0), (again(2000, FILL),), 2000)[-1], (0, (4000, 0), NONE))
        self.assert_too_long(HOUSE, (0, 0), (again(2000, FILL),), 1999)

    def test_whichever_comes_first(self):
        story = (FILL, IDLE, MILL, FILL)
        self.assert_too_long(HOUSE, (0, 0), story, 1)
        # The third doing is stuck; coming to it is ahead of that.
        self.assert_too_long(HOUSE, (0, 0), story, 2)
        self.assert_stuck(HOUSE, (0, 0), story, 3, 2)
        self.assert_stuck(HOUSE, (0, 0), story, 4, 2)
        self.assert_too_long(HOUSE, (1, 0), story, 3)
        self.assertEqual(len(told(HOUSE, (1, 0), story, 4)), 4)
        self.assert_too_long(HOUSE, (100, 0), (again(MILLION, FILL, MILL),), 201)
        self.assert_stuck(HOUSE, (100, 0), (again(MILLION, FILL, MILL),), 202, 201)

    def test_long_traces_many_times(self):
        goings = ((1, (0, ())), (1, (1, ()))) * 100
        story = (again(MILLION, ("do", 2, goings)),)
        self.assert_stuck(HOUSE, (0, 100 * 1999), story, 2000, 1999)
        self.assert_too_long(HOUSE, (0, 10 ** 9), story, 2000)

    def test_many_houses(self):
        chance = random.Random(61)
        refused = {"Stuck": 0, "TooLong": 0}
        for house in samples.houses_let_by(150, 62):
            for time in range(4):
                story = samples.random_story(chance, house)
                jars = tuple(chance.choice((0, 3, 12, 10 ** 9)) for jar in house[0])
                for most in (1, 2, 5, 2000):
                    expected = told_by_doings(house, jars, story, most)
                    self.assertEqual(outcome(told, house, jars, story, most), expected)
                    if isinstance(expected, tuple):
                        refused[expected[0]] += 1
        self.assertGreater(min(refused.values()), 100)

    def test_without_jars(self):
        house = ((), (("a", ("pay", (1, 2))),))
        self.assertEqual(told(house, (), (again(2, ("do", 0, ())),), 2), [(0, (), HALF), (0, (), (1, 1))])

    def test_the_list_is_the_askers_own(self):
        story = (again(3, FILL), MILL)
        first = told(HOUSE, (0, 0), story, 9)
        kept = list(first)
        first.append("q")
        first[0] = None
        second = told(HOUSE, (0, 0), story, 9)
        self.assertIs(type(second), list)
        self.assertEqual(second, kept)
        second.clear()
        self.assertEqual(told(HOUSE, (0, 0), story, 9), kept)
        self.assertLessEqual(samples.kinds_of(kept), {"list", "tuple", "int"})
        empty = told(HOUSE, (0, 0), (), 1)
        empty.append("q")
        self.assertEqual(told(HOUSE, (0, 0), (), 1), [])

    def test_nothing_is_changed(self):
        story = (again(3, FILL), MILL)
        jars = (0, 0)
        before = repr((HOUSE, jars, story))
        self.assertEqual(told(HOUSE, jars, story, 9), told(HOUSE, jars, story, 9))
        self.assert_too_long(HOUSE, jars, story, 2)
        self.assert_stuck(HOUSE, jars, story + (MILL, MILL), 9, 5)
        self.assert_stuck(HOUSE, jars, story + (MILL, MILL), 9, 5)
        self.assertEqual(repr((HOUSE, jars, story)), before)


if __name__ == "__main__":
    unittest.main()
