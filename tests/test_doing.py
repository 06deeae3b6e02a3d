"""Promises 2 and 13: a deed done row by row."""

import random
import unittest

import samples
from dueworth.doing import done
from dueworth.errors import Stuck, TooLong
from dueworth.traces import led_to, plain_trace
from walking import outcome, walked

PAY = ("pay", (1, 2))
PUT = ("put", "x", 2)
TAKE = ("take", "x", 3, PAY, ("put", "y", 1))
HALF = (1, 2)
ONE = (1, 1)
NONE = (0, 1)


def house_of(*bodies):
    return (("x", "y"), tuple((name, body) for name, body in zip("abcd", bodies)))


# A body, jars, a trace, and what one comes to.
DONE = (
    (("rest",), (1, 2), (), [(0, (1, 2), NONE)]),
    (PAY, (0, 0), (), [(0, (0, 0), NONE), (1, (0, 0), HALF)]),
    (("pay", (0, 1)), (0, 0), (), [(0, (0, 0), NONE), (1, (0, 0), NONE)]),
    (PUT, (5, 1), (), [(0, (5, 1), NONE), (1, (7, 1), NONE)]),
    (("put", "y", 9), (0, 10 ** 9), (), [(0, (0, 10 ** 9), NONE), (1, (0, 10 ** 9 + 9), NONE)]),
    (("then", PAY, PAY), (0, 0), ((), ()), [(0, (0, 0), NONE), (1, (0, 0), HALF), (2, (0, 0), ONE)]),
    (("either", PAY, PUT), (0, 0), (0, ()), [(0, (0, 0), NONE), (1, (0, 0), NONE), (3, (0, 0), HALF)]),
    (("either", PAY, PUT), (0, 0), (1, ()), [(0, (0, 0), NONE), (2, (0, 0), NONE), (3, (2, 0), NONE)]),
    (TAKE, (3, 0), (0, ()), [(0, (3, 0), NONE), (1, (0, 0), NONE), (3, (0, 0), HALF)]),
    (TAKE, (9, 9), (0, ()), [(0, (9, 9), NONE), (1, (6, 9), NONE), (3, (6, 9), HALF)]),
    (TAKE, (9, 9), (1, ()), [(0, (9, 9), NONE), (2, (9, 9), NONE), (3, (9, 10), NONE)]),
    (TAKE, (0, 0), (1, ()), [(0, (0, 0), NONE), (2, (0, 0), NONE), (3, (0, 1), NONE)]),
    (("often", PUT), (0, 0), (), [(0, (0, 0), NONE), (2, (0, 0), NONE)]),
    (("often", PUT), (0, 0), ((1, ()),), [(0, (0, 0), NONE), (1, (0, 0), NONE), (0, (2, 0), NONE), (2, (2, 0), NONE)]),
    (("often", PUT), (0, 0), ((1, ()), (1, ())), [
        (0, (0, 0), NONE), (1, (0, 0), NONE), (0, (2, 0), NONE), (1, (2, 0), NONE), (0, (4, 0), NONE),
        (2, (4, 0), NONE)]),
    (("often", ("rest",)), (0, 0), ((2, ()), (1, ())), [(0, (0, 0), NONE)] * 4 + [(1, (0, 0), NONE)]),
    (("then", PUT, ("take", "x", 2, PAY, ("rest",))), (0, 0), ((), (0, ())), [
        (0, (0, 0), NONE), (1, (2, 0), NONE), (2, (0, 0), NONE), (3, (0, 0), HALF)]),
    (("often", ("either", PAY, ("often", PAY))), (0, 0), ((1, (1, ((2, ()),))), (1, (0, ()))), [
        (0, (0, 0), NONE), (1, (0, 0), NONE), (3, (0, 0), NONE), (4, (0, 0), NONE), (3, (0, 0), HALF),
        (4, (0, 0), HALF), (3, (0, 0), ONE), (0, (0, 0), ONE), (1, (0, 0), ONE), (2, (0, 0), ONE),
        (0, (0, 0), (3, 2)), (5, (0, 0), (3, 2))]),
)

# A body, jars, a trace, and the row of the take that is stuck.
STUCK = (
    (TAKE, (2, 0), (0, ()), 0),
    (TAKE, (0, 9), (0, ()), 0),
    (("then", PAY, TAKE), (2, 0), ((), (0, ())), 1),
    (("then", PUT, TAKE), (0, 0), ((), (0, ())), 1),
    (("then", TAKE, TAKE), (5, 0), ((0, ()), (0, ())), 3),
    (("then", TAKE, PUT), (0, 0), ((0, ()), ()), 0),
    (("often", TAKE), (5, 0), ((2, (0, ())),), 1),
    (("often", TAKE), (8, 0), ((1, (1, ())), (3, (0, ()))), 1),
    (("either", PAY, ("take", "y", 1, TAKE, PAY)), (0, 1), (1, (0, (0, ()))), 3),
)


class TestDone(unittest.TestCase):
    def assert_too_long(self, house, jars, d, trace, most):
        with self.assertRaises(TooLong) as caught:
            done(house, jars, d, trace, most)
        self.assertIs(type(caught.exception), TooLong)
        self.assertEqual(caught.exception.most, most)

    def assert_stuck(self, house, jars, d, trace, most, row):
        with self.assertRaises(Stuck) as caught:
            done(house, jars, d, trace, most)
        self.assertIs(type(caught.exception), Stuck)
        self.assertEqual(caught.exception.row, row)

    def test_done(self):
        for body, jars, trace, seen in DONE:
            with self.subTest(body=body, trace=trace):
                for most in (len(seen), len(seen) + 1, 2000):
                    self.assertEqual(done(house_of(body), jars, 0, trace, most), seen)
                for most in range(1, len(seen)):
                    self.assert_too_long(house_of(body), jars, 0, trace, most)

    def test_of_each_deed(self):
        house = house_of(PAY, PUT, TAKE)
        self.assertEqual(done(house, (1, 1), 0, (), 2), [(0, (1, 1), NONE), (1, (1, 1), HALF)])
        self.assertEqual(done(house, (1, 1), 1, (), 2), [(0, (1, 1), NONE), (1, (3, 1), NONE)])
        self.assertEqual(done(house, (1, 1), 2, (1, ()), 3), [(0, (1, 1), NONE), (2, (1, 1), NONE), (3, (1, 2), NONE)])

    def test_without_jars(self):
        house = ((), (("a", ("often", PAY)),))
        self.assertEqual(done(house, (), 0, ((1, ()),), 4), [(0, (), NONE), (1, (), NONE), (0, (), HALF), (2, (), HALF)])

    def test_stuck(self):
        for body, jars, trace, row in STUCK:
            with self.subTest(body=body, trace=trace):
                self.assert_stuck(house_of(body), jars, 0, trace, 100, row)

    def test_whichever_comes_first(self):
        house = house_of(("then", PAY, ("then", PUT, TAKE)))
        trace = ((), ((), (0, ())))
        # The take's row is the third that is come to: that is ahead of its being stuck.
        self.assert_too_long(house, (0, 0), 0, trace, 1)
        self.assert_too_long(house, (0, 0), 0, trace, 2)
        self.assert_stuck(house, (0, 0), 0, trace, 3, 2)
        self.assert_stuck(house, (0, 0), 0, trace, 4, 2)
        self.assert_too_long(house, (1, 0), 0, trace, 3)
        self.assert_too_long(house, (1, 0), 0, trace, 4)
        self.assertEqual(len(done(house, (1, 0), 0, trace, 5)), 5)

    def test_the_end_is_counted(self):
        self.assertEqual(done(house_of(("rest",)), (0, 0), 0, (), 1), [(0, (0, 0), NONE)])
        self.assert_too_long(house_of(PAY), (0, 0), 0, (), 1)
        self.assertEqual(len(done(house_of(PAY), (0, 0), 0, (), 2)), 2)

    def test_goings_of_many_times(self):
        house = house_of(("often", PUT), ("often", ("often", ("rest",))))
        seen = done(house, (0, 0), 0, ((999, ()),), 2000)
        self.assertEqual(len(seen), 2000)
        self.assertEqual(seen[-1], (2, (1998, 0), NONE))
        self.assert_too_long(house, (0, 0), 0, ((999, ()),), 1999)
        self.assert_too_long(house, (0, 0), 0, ((1000, ()),), 2000)
        self.assert_too_long(house, (0, 0), 0, ((10 ** 6, ()),), 2000)
        self.assert_too_long(house, (0, 0), 0, ((10 ** 30, ()),), 7)
        inner = ((10, ((10, ()),)), (5, ()))
        self.assertEqual(done(house, (0, 0), 1, inner, 200), walked(house, (0, 0), 1, inner, 200))
        self.assert_too_long(house, (0, 0), 1, ((10 ** 6, ((10 ** 6, ()),)),), 2000)
        self.assert_too_long(house, (0, 0), 1, ((10 ** 6, ()),), 2000)

    def test_many_houses(self):
        chance = random.Random(31)
        told = {"Stuck": 0, "TooLong": 0}
        for house in samples.houses_let_by(150, 32):
            for d in range(len(house[1])):
                for time in range(4):
                    trace = samples.random_trace(chance, house[1][d][1])
                    jars = tuple(chance.choice((0, 3, 12, 10 ** 9)) for jar in house[0])
                    self.assert_as_walked(house, jars, d, trace, told)
        self.assertGreater(min(told.values()), 100)

    def assert_as_walked(self, house, jars, d, trace, told):
        whole = walked(house, jars, d, trace, 3000)
        mosts = [1, 2, 5, 3000]
        if isinstance(whole, list):
            mosts.extend((max(1, len(whole) - 1), len(whole), len(whole) + 1))
        for most in mosts:
            expected = walked(house, jars, d, trace, most)
            self.assertEqual(outcome(done, house, jars, d, trace, most), expected)
            if isinstance(expected, tuple):
                told[expected[0]] += 1

    def test_by_told_traces(self):
        for house in samples.houses_let_by(40, 33):
            jars = (10 ** 9,) * len(house[0])
            for d, deed in enumerate(house[1]):
                trace = plain_trace(deed[1])
                self.assertEqual(done(house, jars, d, trace, 100), walked(house, jars, d, trace, 100))
        body = ("either", PAY, ("often", ("take", "x", 1, ("often", PUT), PAY)))
        trace = led_to(body, 1, ((3, ()),))
        house = house_of(body)
        self.assertEqual(done(house, (1, 0), 0, trace, 100), walked(house, (1, 0), 0, trace, 100))
        self.assertEqual(done(house, (1, 0), 0, trace, 100)[-1], (7, (6, 0), NONE))

    def test_the_list_is_the_askers_own(self):
        house = house_of(("often", PUT))
        jars = (1, 2)
        trace = ((2, ()),)
        first = done(house, jars, 0, trace, 9)
        kept = list(first)
        first.append("q")
        first[0] = None
        second = done(house, jars, 0, trace, 9)
        self.assertIs(type(second), list)
        self.assertIsNot(first, second)
        self.assertEqual(second, kept)
        second.clear()
        self.assertEqual(done(house, jars, 0, trace, 9), kept)
        self.assertLessEqual(samples.kinds_of(kept), {"list", "tuple", "int"})

    def test_nothing_is_changed(self):
        house = house_of(("often", TAKE))
        jars = (4, 0)
        trace = ((1, (0, ())), (1, (1, ())))
        before = repr((house, jars, trace))
        self.assertEqual(done(house, jars, 0, trace, 50), done(house, jars, 0, trace, 50))
        self.assert_stuck(house, jars, 0, ((2, (0, ())),), 50, 1)
        self.assert_stuck(house, jars, 0, ((2, (0, ())),), 50, 1)
        self.assert_too_long(house, jars, 0, trace, 2)
        self.assertEqual(repr((house, jars, trace)), before)


if __name__ == "__main__":
    unittest.main()
