"""Promises 2 and 14: what a trace costs, does and asks for."""

import random
import unittest
from fractions import Fraction

import samples
from dueworth.doing import done
from dueworth.tallies import tally
from samples import pair
from walking import one_less, outcome, walked

MILLION = 10 ** 6
PAY = ("pay", (2, 3))
REST = ("rest",)
NONE = (0, 1)


def put(jar, things):
    return ("put", jar, things)


def take(jar, things, one=REST, other=REST):
    return ("take", jar, things, one, other)


def then(one, other, *more):
    return then(("then", one, other), *more) if more else ("then", one, other)


def house_of(body):
    return (("x", "y"), (("q", REST), ("a", body)))


TAKEN = (0, ())
LEFT = (1, ())

# A body, a trace of it, and its tally.
TALLIES = (
    (REST, (), (NONE, (0, 0), (0, 0))),
    (PAY, (), ((2, 3), (0, 0), (0, 0))),
    (put("x", 4), (), (NONE, (4, 0), (0, 0))),
    (put("y", 9), (), (NONE, (0, 9), (0, 0))),
    (then(PAY, PAY), ((), ()), ((4, 3), (0, 0), (0, 0))),
    (("either", PAY, put("x", 1)), (0, ()), ((2, 3), (0, 0), (0, 0))),
    (("either", PAY, put("x", 1)), (1, ()), (NONE, (1, 0), (0, 0))),
    (take("x", 3, PAY), TAKEN, ((2, 3), (-3, 0), (3, 0))),
    (take("x", 3, PAY), LEFT, (NONE, (0, 0), (0, 0))),
    (take("y", 3, PAY, put("x", 1)), LEFT, (NONE, (1, 0), (0, 0))),
    # What comes in ahead isn't asked for, what comes in behind is.
    (then(put("x", 2), take("x", 3)), ((), TAKEN), (NONE, (-1, 0), (1, 0))),
    (then(put("x", 3), take("x", 3)), ((), TAKEN), (NONE, (0, 0), (0, 0))),
    (then(put("x", 5), take("x", 3)), ((), TAKEN), (NONE, (2, 0), (0, 0))),
    (then(take("x", 3), put("x", 5)), (TAKEN, ()), (NONE, (2, 0), (3, 0))),
    (then(take("x", 3), take("x", 4)), (TAKEN, TAKEN), (NONE, (-7, 0), (7, 0))),
    (then(take("x", 3), put("x", 1), take("x", 4)), ((TAKEN, ()), TAKEN), (NONE, (-6, 0), (6, 0))),
    (then(take("x", 3), put("x", 4), take("x", 4)), ((TAKEN, ()), TAKEN), (NONE, (-3, 0), (3, 0))),
    (take("x", 3, put("x", 9)), TAKEN, (NONE, (6, 0), (3, 0))),
    (take("x", 3, take("y", 2, PAY)), (0, TAKEN), ((2, 3), (-3, -2), (3, 2))),
    (take("x", 3, take("x", 2, PAY)), (0, TAKEN), ((2, 3), (-5, 0), (5, 0))),
    (take("x", 3, REST, take("x", 2)), (1, TAKEN), (NONE, (-2, 0), (2, 0))),
    # Goings.
    (("often", PAY), (), (NONE, (0, 0), (0, 0))),
    (("often", PAY), ((3, ()),), ((2, 1), (0, 0), (0, 0))),
    (("often", PAY), ((1, ()), (1, ()), (2, ())), ((8, 3), (0, 0), (0, 0))),
    (("often", PAY), ((MILLION, ()),), ((2 * MILLION, 3), (0, 0), (0, 0))),
    (("often", put("x", 9)), ((MILLION, ()),), (NONE, (9 * MILLION, 0), (0, 0))),
    (("often", take("x", 9)), ((MILLION, TAKEN),), (NONE, (-9 * MILLION, 0), (9 * MILLION, 0))),
    (("often", take("x", 9)), ((MILLION, LEFT),), (NONE, (0, 0), (0, 0))),
    # Each time one more comes in than goes out: only the first time asks.
    (("often", then(take("x", 8), put("x", 9))), ((MILLION, (TAKEN, ())),), (NONE, (MILLION, 0), (8, 0))),
    (("often", then(take("x", 9), put("x", 9))), ((MILLION, (TAKEN, ())),), (NONE, (0, 0), (9, 0))),
    (("often", then(take("x", 9), put("x", 8))), ((MILLION, (TAKEN, ())),), (NONE, (-MILLION, 0), (MILLION + 8, 0))),
    (("often", then(put("x", 8), take("x", 9))), ((MILLION, ((), TAKEN)),), (NONE, (-MILLION, 0), (MILLION, 0))),
    (("often", then(take("x", 2, put("y", 1)), take("y", 3, put("x", 9)))), ((MILLION, (TAKEN, TAKEN)),),
     (NONE, (7 * MILLION, -2 * MILLION), (2, 2 * MILLION))),
    # Goings one behind the other: what one brought in is there for the next.
    (("often", ("either", put("x", 2), take("x", 3))), ((3, (0, ())), (2, (1, TAKEN))), (NONE, (0, 0), (0, 0))),
    (("often", ("either", put("x", 2), take("x", 3))), ((2, (1, TAKEN)), (3, (0, ()))), (NONE, (0, 0), (6, 0))),
    (("often", ("either", put("x", 2), take("x", 3))), ((MILLION, (0, ())), (MILLION, (1, TAKEN))),
     (NONE, (-MILLION, 0), (MILLION, 0))),
    # Goings within goings.
    (("often", ("often", then(PAY, take("x", 1)))), ((MILLION, ((MILLION, ((), TAKEN)),)),),
     ((2 * MILLION ** 2, 3), (-MILLION ** 2, 0), (MILLION ** 2, 0))),
    (("often", then(("often", put("x", 1)), take("x", 9))), ((MILLION, (((8, ()),), TAKEN)),),
     (NONE, (-MILLION, 0), (MILLION, 0))),
    (("often", then(take("x", 9), ("often", put("x", 1)))), ((MILLION, (TAKEN, ((8, ()),))),),
     (NONE, (-MILLION, 0), (MILLION + 8, 0))),
    (("often", then(take("x", 9), ("often", put("x", 1)))), ((MILLION, (TAKEN, ((MILLION, ()),))),),
     (NONE, (MILLION ** 2 - 9 * MILLION, 0), (9, 0))),
)


class TestTally(unittest.TestCase):
    def test_told(self):
        for body, trace, told in TALLIES:
            with self.subTest(body=body, trace=trace):
                self.assertEqual(tally(house_of(body), 1, trace), told)
                self.assertEqual(tally(house_of(body), 1, trace), told)
                self.assertLessEqual(samples.kinds_of(tally(house_of(body), 1, trace)), {"tuple", "int"})

    def test_without_jars(self):
        self.assertEqual(tally(((), (("a", ("often", PAY)),)), 0, ((MILLION, ()),)), ((2 * MILLION, 3), (), ()))

    def test_done_from_the_demand(self):
        chance = random.Random(41)
        stuck = 0
        for house in samples.houses_let_by(150, 42):
            for d in range(len(house[1])):
                for time in range(4):
                    trace = samples.random_trace(chance, house[1][d][1])
                    stuck += self.assert_tally_of(house, d, trace)
        self.assertGreater(stuck, 200)

    def assert_tally_of(self, house, d, trace):
        """How many demands were tried with one thing less."""
        cost, effect, demand = tally(house, d, trace)
        seen = done(house, demand, d, trace, 10 ** 5)
        self.assertEqual(seen[-1][1], tuple(one + other for one, other in zip(demand, effect)))
        self.assertEqual(seen[-1][2], cost)
        for jars in one_less(demand):
            self.assertEqual(outcome(done, house, jars, d, trace, 10 ** 5)[0], "Stuck")
            self.assertEqual(walked(house, jars, d, trace, 10 ** 5)[0], "Stuck")
        return len(list(one_less(demand)))

    def test_many_times_is_so_many_goings(self):
        chance = random.Random(43)
        for house in samples.houses_let_by(100, 44):
            body = house[1][0][1]
            inner = samples.random_trace(chance, body)
            often = (house[0], (("a", ("often", body)),))
            for many in (1, 2, 3, 10):
                one_by_one = tally(often, 0, ((1, inner),) * many)
                self.assertEqual(tally(often, 0, ((many, inner),)), one_by_one)
            parted = tally(often, 0, ((400000, inner), (1, inner), (599999, inner)))
            self.assertEqual(tally(often, 0, ((MILLION, inner),)), parted)

    def test_random_goings_of_a_million_times(self):
        """By another way of reckoning: the lowest that a jar comes to, over the first and the last time."""
        chance = random.Random(45)
        for house in samples.houses_let_by(60, 46, deep=4):
            trace = samples.random_trace(chance, house[1][0][1], MILLION)
            cost, effect, demand = tally(house, 0, trace)
            paid, moved, lowest = reckoned(house[0], house[1][0][1], trace)
            self.assertEqual(cost, pair(paid))
            self.assertEqual(effect, tuple(moved))
            self.assertEqual(demand, tuple(-low for low in lowest))

    def test_long_traces(self):
        body = ("often", ("either", put("x", 1), take("x", 1, PAY)))
        goings = tuple((number, (number % 2, ((), TAKEN)[number % 2])) for number in range(1, 201))
        paid = Fraction(2, 3) * sum(range(1, 201, 2))
        self.assertEqual(tally(house_of(body), 1, goings), (pair(paid), (100, 0), (100, 0)))

    def test_nothing_is_changed(self):
        house = house_of(("often", take("x", 2, PAY)))
        trace = ((5, TAKEN), (MILLION, LEFT))
        before = repr((house, trace))
        self.assertEqual(tally(house, 1, trace), tally(house, 1, trace))
        self.assertEqual(repr((house, trace)), before)


def reckoned(jars, body, trace):
    """The cost, the effect, and how far below the begin each jar comes, as a list for each."""
    cost, moved, lowest = Fraction(0), [0] * len(jars), [0] * len(jars)
    steps = []
    if body[0] == "pay":
        return Fraction(*body[1]), moved, lowest
    if body[0] == "put":
        moved[jars.index(body[1])] = body[2]
        return cost, moved, lowest
    if body[0] == "then":
        steps = [(1, body[1], trace[0]), (1, body[2], trace[1])]
    if body[0] == "often":
        steps = [(many, body[1], inner) for many, inner in trace]
    if body[0] in ("either", "take"):
        steps = [(1, body[-2 + trace[0]], trace[1])]
        if body[0] == "take" and trace[0] == 0:
            moved[jars.index(body[1])] = -body[2]
            lowest[jars.index(body[1])] = -body[2]
    for many, side, inner in steps:
        paid, change, low = reckoned(jars, side, inner)
        for place in range(len(jars)):
            first = moved[place] + low[place]
            last = first + change[place] * (many - 1)
            lowest[place] = min(lowest[place], first, last)
            moved[place] += change[place] * many
        cost += paid * many
    return cost, moved, lowest


if __name__ == "__main__":
    unittest.main()
