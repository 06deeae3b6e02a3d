"""Promises 2, 3 and 18: the jars that can be filled, and how."""

import unittest

import samples
from dueworth.filling import filling
from dueworth.stories import story_tally
from dueworth.tellings import told
from dueworth.traces import is_trace
from fillings import HOUSES, MOST_HELD, many_houses
from walking import explored, moved_by


class TestFilling(unittest.TestCase):
    def assert_filling(self, house, steps):
        """A list whose traces take only out of jars ahead in it and bring some into their own."""
        self.assertIs(type(steps), list)
        ahead = set()
        for step in steps:
            self.assertIs(type(step), tuple)
            jar, d, trace = step
            self.assertIn(jar, range(len(house[0])))
            self.assertNotIn(jar, ahead)
            self.assertIn(d, range(len(house[1])))
            self.assertIs(is_trace(house[1][d][1], trace), True)
            taken, brought = moved_by(house, d, trace)
            self.assertLessEqual(taken, ahead)
            self.assertIn(jar, brought)
            ahead.add(jar)
        self.assertLessEqual(samples.kinds_of(steps), {"list", "tuple", "int"})

    def test_each_fillable_jar_and_no_other(self):
        for house, names, rows in HOUSES:
            with self.subTest(house=house):
                steps = filling(house)
                self.assertEqual(sorted(house[0][step[0]] for step in steps), sorted(names))
                self.assert_filling(house, steps)

    def test_many_houses(self):
        told_of = {True: 0, False: 0}
        for house in many_houses():
            steps = filling(house)
            self.assert_filling(house, steps)
            fillable = {step[0] for step in steps}
            self.assertEqual(fillable, explored(house, MOST_HELD[len(house[0])])[0], house)
            for jar in range(len(house[0])):
                told_of[jar in fillable] += 1
        self.assertGreater(min(told_of.values()), 100)

    def test_houses_of_all_things(self):
        for house in samples.houses_let_by(200, 72):
            self.assert_filling(house, filling(house))

    def test_things_come_in_where_only_jars_ahead_hold_some(self):
        for house in [row[0] for row in HOUSES] + many_houses():
            held = (0,) * len(house[0])
            for jar, d, trace in filling(house):
                behind = told(house, held, (("do", d, trace),), 1)[-1][1]
                self.assertGreater(behind[jar], 0)
                held = held[:jar] + (10 ** 6,) + held[jar + 1:]

    def test_told_traces_are_handed_on(self):
        for house, names, rows in HOUSES:
            for jar, d, trace in filling(house):
                cost, counts, effect, demand = story_tally(house, (("again", 10 ** 9, (("do", d, trace),)),))
                self.assertGreaterEqual(effect[jar], 10 ** 9)
                self.assertEqual(demand[jar], 0)
                self.assertEqual(counts[d], 10 ** 9)

    def test_the_list_is_the_askers_own(self):
        house = HOUSES[10][0]
        first = filling(house)
        kept = list(first)
        self.assertEqual(len(kept), 4)
        first.clear()
        second = filling(house)
        self.assertEqual(second, kept)
        second.append("q")
        self.assertEqual(filling(house), kept)
        none = filling(HOUSES[0][0])
        none.append("q")
        self.assertEqual(filling(HOUSES[0][0]), [])

    def test_nothing_is_changed(self):
        before = repr(HOUSES)
        for house, names, rows in HOUSES:
            self.assertEqual(filling(house), filling(house))
        self.assertEqual(repr(HOUSES), before)


if __name__ == "__main__":
    unittest.main()
