"""Promises 2, 15 and 17: stories looked at and tallied."""

import random
import unittest

import samples
import walking
from dueworth.stories import is_story, story_tally
from dueworth.tellings import told

MILLION = 10 ** 6
REST = ("rest",)
PAY = ("pay", (1, 2))
NONE = (0, 1)

# Deeds: 0 puts 2 into x, 1 takes 3 of x and then pays and puts 1 into y, 2 goes an often of takes of y.
HOUSE = (("x", "y"), (
    ("fill", ("put", "x", 2)),
    ("mill", ("take", "x", 3, ("then", PAY, ("put", "y", 1)), REST)),
    ("bake", ("often", ("take", "y", 1, ("pay", (1, 3)), REST))),
))
FILL = ("do", 0, ())
MILL = ("do", 1, (0, ((), ())))
IDLE = ("do", 1, (1, ()))


def bake(many):
    return ("do", 2, ((many, (0, ())),))


def again(many, *story):
    return ("again", many, story)


GOOD = (
    (),
    (FILL,),
    (IDLE, FILL, MILL, ("do", 2, ())),
    (bake(MILLION),),
    (again(1, FILL),),
    (again(MILLION, FILL), MILL),
    (again(10 ** 12, again(10 ** 12, MILL, IDLE), FILL), again(2, again(2, again(2, bake(2))))),
    (FILL,) * 200,
)

BAD = (
    # A wrong word.
    (("did", 0, ()),), (("", 0, ()),), (("Do", 0, ()),), (("do ", 0, ()),), (("agains", 2, (FILL,)),), ((0, 0, ()),),
    (((), 0, ()),), ((("do",), 0, ()),), (("fill", 0, ()),), (FILL, ("again", 2, (("done", 0, ()),))),
    # A deed that isn't there.
    (("do", 3, ()),), (("do", -1, ((1, (0, ())),)),), (("do", -3, ()),), (("do", MILLION, ()),), (("do", "0", ()),),
    (("do", "fill", ()),), (("do", (), ()),), (("do", (0,), ()),), (again(2, FILL, ("do", 3, ())),),
    # No times, no story.
    (again(0, FILL),), (again(-1, FILL),), (again("1", FILL),), (again((), FILL),), (again((1,), FILL),),
    (again(1),), (again(0),), (again(2, FILL, again(2)),), (again(2, again(0, FILL)),),
    # Parts of fewer or more things.
    ((),), (("do",),), (("do", 0),), (("do", 0, (), ()),), (("again", 2),), (("again", (FILL,)),),
    (("again", 2, (FILL,), ()),), (("again", 2, FILL),), (("again", 2, FILL, FILL),), (again(2, ("do", 0)),), FILL,
    ("do", "do", "do"), ("again", 2, (FILL,)),
    # A trace of another body.
    (("do", 0, (0, ())),), (("do", 1, ()),), (("do", 2, (0, ())),), (("do", 0, ((),)),), (("do", 2, ((0, (0, ())),)),),
    (("do", 2, ((1, (2, ())),)),), (again(2, again(2, ("do", 1, ((), ())))),), (("do", 1, (0, (1, ()))),),
    # A text or a number in the place of a tuple.
    (0,), (1,), ("do",), ("",), ("do", 0, ()), (FILL, 1), (FILL, "again"), (("do", 0, 0),), (("do", 0, ""),),
    (("do", 0, "()"),), (("do", 1, (0, "ab")),), (("do", 1, "ab"),), (("do", 1, (0, ((), ""))),), (("do", 1, ("0", ())),),
    (("do", 2, "a"),), (("do", 2, ("ab",)),), (("do", 2, (("1", (0, ())),)),), (("do", 2, ((1, (0, "")),)),),
    (("do", 2, ((1, 0),)),), (("do", 2, (1,)),), (("again", 2, "do"),), (("again", 2, ""),), (("again", 2, 1),),
    (("again", 2, (FILL, "do")),), (("again", 2, (FILL, 7)),), (again(2, again(2, again(2, ("do", 1, (0, ((), 0)))))),),
    (again(2, again(2, again(2, "x"))),), ("again",), ("abc", "def"),
)


class TestIsStory(unittest.TestCase):
    def test_good(self):
        for story in GOOD:
            self.assertIs(is_story(HOUSE, story), True)

    def test_bad(self):
        for story in BAD:
            with self.subTest(story=story):
                self.assertIs(is_story(HOUSE, story), False)
                self.assertIs(is_story(HOUSE, (FILL,) + story), False)
                self.assertIs(is_story(HOUSE, story + (FILL,)), False)
                self.assertIs(is_story(HOUSE, (again(2, *((MILL,) + story)),)), False)
                self.assertIs(is_story(HOUSE, (again(2, again(3, FILL, again(4, *(story + (FILL,))))),)), False)

    def test_truths_are_no_numbers(self):
        self.assertIs(is_story(HOUSE, (("do", False, ()),)), False)
        self.assertIs(is_story(HOUSE, (again(True, FILL),)), False)

    def test_within_one_another(self):
        story = (MILL,)
        wrong = (("do", 1, ()),)
        for deep in range(1, 60):
            story = (again(deep, *story),)
            wrong = (again(deep, *wrong),)
            self.assertIs(is_story(HOUSE, story), True)
            self.assertIs(is_story(HOUSE, wrong), False)
            self.assertIs(is_story(HOUSE, (FILL,) + story + story + wrong), False)

    def test_one_thing_put_otherwise(self):
        chance = random.Random(51)
        tried = {True: 0, False: 0}
        for house in samples.houses_let_by(25, 52, deep=3) + [HOUSE]:
            pattern = walking.story_pattern(house, 6)
            for time in range(2):
                story = samples.random_story(chance, house, 3)
                self.assertIs(is_story(house, story), True)
                for near in samples.near_things(story):
                    if isinstance(near, tuple):
                        self.assertIs(is_story(house, near), walking.matches(pattern, near), (house, near))
                        tried[is_story(house, near)] += 1
        self.assertGreater(min(tried.values()), 300)

    def test_stories_of_other_houses(self):
        chance = random.Random(53)
        houses = samples.houses_let_by(30, 54, deep=3)
        stories = [samples.random_story(chance, house) for house in houses]
        for house in houses:
            pattern = walking.story_pattern(house, 6)
            for story in stories:
                self.assertIs(is_story(house, story), walking.matches(pattern, story))

    def test_nothing_is_changed_and_asked_again_it_is_told_again(self):
        before = repr((HOUSE, GOOD, BAD))
        for story in GOOD + BAD:
            self.assertIs(is_story(HOUSE, story), is_story(HOUSE, story))
        self.assertEqual(repr((HOUSE, GOOD, BAD)), before)


# A story, and its cost, counts, effect, demand.
TALLIES = (
    ((), (NONE, (0, 0, 0), (0, 0), (0, 0))),
    ((FILL,), (NONE, (1, 0, 0), (2, 0), (0, 0))),
    ((MILL,), ((1, 2), (0, 1, 0), (-3, 1), (3, 0))),
    ((IDLE,), (NONE, (0, 1, 0), (0, 0), (0, 0))),
    ((FILL, MILL), ((1, 2), (1, 1, 0), (-1, 1), (1, 0))),
    ((MILL, FILL), ((1, 2), (1, 1, 0), (-1, 1), (3, 0))),
    ((FILL, FILL, MILL, bake(1)), ((5, 6), (2, 1, 1), (1, 0), (0, 0))),
    ((MILL, IDLE, bake(2)), ((7, 6), (0, 2, 1), (-3, -1), (3, 1))),
    ((again(3, FILL), again(2, MILL)), ((1, 1), (3, 2, 0), (0, 2), (0, 0))),
    ((again(2, MILL), again(3, FILL)), ((1, 1), (3, 2, 0), (0, 2), (6, 0))),
    ((again(MILLION, FILL),), (NONE, (MILLION, 0, 0), (2 * MILLION, 0), (0, 0))),
    ((again(MILLION, MILL),), ((500000, 1), (0, MILLION, 0), (-3 * MILLION, MILLION), (3 * MILLION, 0))),
    ((again(MILLION, FILL, MILL),), ((500000, 1), (MILLION, MILLION, 0), (-MILLION, MILLION), (MILLION, 0))),
    ((again(MILLION, MILL, FILL),), ((500000, 1), (MILLION, MILLION, 0), (-MILLION, MILLION), (MILLION + 2, 0))),
    ((again(MILLION, MILL, FILL, FILL),), ((500000, 1), (2 * MILLION, MILLION, 0), (MILLION, MILLION), (3, 0))),
    ((bake(MILLION),), ((MILLION, 3), (0, 0, 1), (0, -MILLION), (0, MILLION))),
    ((again(MILLION, bake(MILLION)),),
     ((MILLION ** 2, 3), (0, 0, MILLION), (0, -MILLION ** 2), (0, MILLION ** 2))),
    ((again(MILLION, MILL, again(MILLION, FILL)), again(2, FILL)),
     ((500000, 1), (MILLION ** 2 + 2, MILLION, 0), (2 * MILLION ** 2 - 3 * MILLION + 4, MILLION), (3, 0))),
    ((again(MILLION, again(MILLION, FILL, MILL, IDLE), bake(MILLION)),),
     ((5 * MILLION ** 2 // 2, 3), (MILLION ** 2, 2 * MILLION ** 2, MILLION), (-MILLION ** 2, 0), (MILLION ** 2, 0))),
)


class TestStoryTally(unittest.TestCase):
    def test_told(self):
        for story, found in TALLIES:
            with self.subTest(story=story):
                self.assertIs(is_story(HOUSE, story), True)
                self.assertEqual(story_tally(HOUSE, story), found)
                self.assertEqual(story_tally(HOUSE, story), found)
                self.assertLessEqual(samples.kinds_of(story_tally(HOUSE, story)), {"tuple", "int"})

    def test_told_from_the_demand(self):
        chance = random.Random(55)
        tried = 0
        for house in samples.houses_let_by(120, 56):
            for time in range(3):
                tried += self.assert_tally_of(house, samples.random_story(chance, house))
        self.assertGreater(tried, 100)

    def assert_tally_of(self, house, story):
        """How many demands were tried with one thing less."""
        cost, counts, effect, demand = story_tally(house, story)
        doings = told(house, demand, story, 10 ** 4)
        self.assertEqual(doings, walking.told_by_doings(house, demand, story, 10 ** 4))
        ended = doings[-1] if doings else (0, demand, NONE)
        self.assertEqual(ended[2], cost)
        self.assertEqual(ended[1], tuple(one + other for one, other in zip(demand, effect)))
        ordered = [doing[0] for doing in doings]
        self.assertEqual(counts, tuple(ordered.count(d) for d in range(len(house[1]))))
        for jars in walking.one_less(demand):
            self.assertEqual(walking.outcome(told, house, jars, story, 10 ** 4)[0], "Stuck")
        return len(list(walking.one_less(demand)))

    def test_so_many_times_is_as_often_written_out(self):
        chance = random.Random(57)
        for house in samples.houses_let_by(60, 58):
            d = chance.randrange(len(house[1]))
            one = ("do", d, samples.random_trace(chance, house[1][d][1], MILLION))
            other = ("do", 0, samples.random_trace(chance, house[1][0][1], MILLION))
            for many in (1, 2, 5):
                self.assertEqual(story_tally(house, (again(many, one, other),)), story_tally(house, (one, other) * many))
            parted = (again(400000, one, other), one, other, again(599999, one, other))
            self.assertEqual(story_tally(house, (again(MILLION, one, other),)), story_tally(house, parted))

    def test_without_jars(self):
        house = ((), (("a", PAY),))
        self.assertEqual(story_tally(house, (again(MILLION, ("do", 0, ())),)), ((500000, 1), (MILLION,), (), ()))

    def test_of_any_size(self):
        story = (bake(10 ** 30),)
        for deep in range(8):
            story = (again(10 ** 30, *story),)
        self.assertEqual(story_tally(HOUSE, story), ((10 ** 270, 3), (0, 0, 10 ** 240), (0, -10 ** 270), (0, 10 ** 270)))

    def test_nothing_is_changed(self):
        story = (again(MILLION, MILL, FILL), bake(3))
        before = repr((HOUSE, story))
        self.assertEqual(story_tally(HOUSE, story), story_tally(HOUSE, story))
        self.assertEqual(repr((HOUSE, story)), before)


if __name__ == "__main__":
    unittest.main()
