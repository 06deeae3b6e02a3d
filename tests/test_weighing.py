"""Promises 2 and 24: columns weighed for a mix."""

import itertools
import random
import unittest
from fractions import Fraction

import samples
from dueworth.weighing import weighed
from samples import pair
from sums import are_fractions, dot, is_fraction, worth, worths

NOUGHT = (0, 1)
ONE = (1, 1)


def no(cost, *effect):
    """A column of no deed."""
    return (None, (cost, 1), effect)


def of(d, cost, *effect):
    return (d, (cost, 1), effect)


# Columns, a mix, and the sum, or None where it is endless.
SUMS = (
    # No jars.
    ((of(0, 3),), (2,), (6, 1)),
    ((of(0, 3), of(0, 5), of(0, 4)), (2,), (10, 1)),
    ((of(0, 3), of(1, 5)), (2, 0), (6, 1)),
    ((of(0, 3), of(1, 5)), (0, 9), (45, 1)),
    ((of(0, 3), of(1, 5), of(2, 0), of(3, 1)), (1, 2, 3, 4), (17, 1)),
    ((of(0, 0),), (9,), NOUGHT),
    (((0, (1, 3), ()), (0, (1, 4), ()), (1, (5, 7), ())), (2, 1), (29, 21)),
    ((of(0, 3), no(0)), (2,), (6, 1)),
    ((of(0, 3), no(1)), (2,), None),
    ((of(0, 3), no(1)), (0,), None),
    # One jar: what one column brings another one uses.
    ((of(0, 0, 1), of(0, 5, -1)), (2,), (5, 1)),
    ((of(0, 0, 1), of(0, 5, -1)), (3,), (15, 2)),
    ((of(0, 0, 2), of(0, 5, -1)), (3,), (10, 1)),
    ((of(0, 0, 1), of(1, 0, 0), of(1, 7, -3)), (2, 5), (14, 3)),
    ((of(0, 0, 1), of(1, 0, 0), of(1, 7, -3)), (9, 2), (14, 1)),
    ((of(0, 0, 1), of(1, 0, 0), of(1, 7, -3)), (9, 0), NOUGHT),
    ((of(0, 0, 1), of(1, 0, 0), of(1, 7, -3)), (0, 9), NOUGHT),
    ((of(0, 0, 0), of(0, 1000, -1)), (9,), NOUGHT),
    ((of(0, 4, 0), of(0, 1, 2), no(1, -1)), (3,), (12, 1)),
    ((of(0, 4, 0), of(0, 1, 2), no(2, -1)), (3,), (15, 1)),
    # Columns of no deed.
    ((of(0, 0, 2), no(1, -1)), (3,), (6, 1)),
    ((of(0, 0, 2), no(1, -1), no(3, -2)), (3,), (9, 1)),
    ((of(0, 0, 2), no(1, -4)), (3,), (3, 2)),
    ((of(0, 0, 2), no(0, 1)), (3,), NOUGHT),
    ((of(0, 0, 0), of(0, 1, -5), no(0, 1)), (3,), (3, 1)),
    ((of(0, 0, 0), no(1, -1), no(0, 1)), (3,), None),
    ((of(0, 0, 0), no(1, 0)), (0,), None),
    ((of(0, 0, 0), no(1, 9)), (0,), None),
    ((of(0, 0, 0), no(1, -1)), (9,), NOUGHT),
    ((no(1, -2), of(0, 0, 5)), (4,), (10, 1)),
    # A chain of jars: two of one make one of the next.
    ((of(0, 0, 1, 0, 0, 0), no(0, -2, 1, 0, 0), no(0, 0, -2, 1, 0), no(0, 0, 0, -2, 1), no(8, 0, 0, 0, -1)), (5,),
     (5, 1)),
    ((of(0, 0, 1, 0, 0, 0), of(1, 0, 0, 0, 0, 0), of(1, 9, -1, 0, 0, 0), no(0, -2, 1, 0, 0), no(5, 0, -2, 0, 0)),
     (8, 1), (9 * 4 + 7 * 5, 4)),
    # Both jars at once.
    ((of(0, 0, 1, 0), of(1, 0, 0, 1), of(2, 0, 0, 0), of(2, 6, -1, -2)), (4, 3, 9), (9, 1)),
    # The same column twice.
    ((of(0, 2, 0), of(0, 2, 0)), (3,), (6, 1)),
    ((of(0, 0, 1), of(0, 0, 1), of(0, 5, -1), of(0, 5, -1)), (2,), (5, 1)),
    ((of(0, 0, 2), no(1, -1), no(1, -1)), (3,), (6, 1)),
    # The greatest numbers.
    (((0, (20000, 2519), (200,)), (None, (20000, 1), (-200,))), (9,), pair(9 * Fraction(20000, 2519) + 180000)),
    (((0, NOUGHT, (200,)), (None, (1, 2520), (-1,))), (9,), (5, 7)),
)

# Of these the same rows come again and again where of two that are used up at once the one that stands first goes.
COMING_AGAIN = (
    ((of(0, 4, 1, -1, 1), of(0, 2, 2, 2, 1), no(4, 1, 2, 0), of(0, 3, -1, -1, 0), no(2, 2, 2, -1), of(0, 3, 2, -1, -1),
      of(0, 2, 0, 0, 0), no(3, -1, 1, -1)), (1,)),
    ((of(1, 2, -1, -2, -1, 0), of(0, 0, 0, 0, 0, 0), of(1, 0, -1, 2, 0, 2), of(1, 1, -1, -2, 0, 2),
      of(1, 2, 1, 1, 0, -1), of(1, 0, 1, 1, 1, 2), no(4, 1, 2, 1, 1), no(0, -2, 2, 1, 2), of(1, 3, 2, -2, 1, 2),
      of(1, 4, -2, 2, 0, -2), of(1, 1, -1, 1, 1, -1), of(0, 3, 0, -2, 2, 1), of(1, 0, 0, 0, 0, 0), no(0, 0, -1, 2, 2),
      no(0, 1, 1, -1, 0), of(1, 2, 1, 2, -2, 1)), (1, 1)),
)


def ring(one, other, forth, back, bringing):
    """Columns that go round two jars: a thing of the first makes so many of the second, and back."""
    return (
        (0, NOUGHT, (0, 0)), (0, NOUGHT, (bringing, 0)),
        (None, one, (-1, forth)), (None, other, (back, -1)),
    )


def random_columns(chance):
    """Columns within the bounds, and a mix."""
    deeds = chance.randint(1, 4)
    jars = chance.randint(0, 4)
    most = chance.choice((1, 2, 9, 200))
    free = chance.choice((0, 0, 1, 4))
    costs = chance.choice(((0, 1, 1), (0, 3, 2), (0, 999, 9), (0, 20000, 2520)))
    losing = chance.random()
    columns = []
    for number in range(chance.randint(deeds, 24)):
        who = number if number < deeds else chance.choice(list(range(deeds)) + [None] * free)
        cost = Fraction(chance.randint(costs[0], costs[1]), chance.randint(1, costs[2]))
        least = 0 if number < deeds or chance.random() > losing else -most
        columns.append((who, pair(cost), tuple(chance.randint(least, most) for jar in range(jars))))
    chance.shuffle(columns)
    return tuple(columns), tuple(chance.choice((0, 0, 1, 2, 9)) for d in range(deeds))


class TestWeighed(unittest.TestCase):
    def assert_shares(self, columns, shares):
        """Shares of columns, nought or more of each jar; told is what they cost."""
        self.assertTrue(are_fractions(shares))
        self.assertEqual(len(shares), len(columns))
        amounts = worths(shares)
        self.assertGreaterEqual(min(amounts), 0)
        for jar in range(len(columns[0][2])):
            self.assertGreaterEqual(dot([column[2][jar] for column in columns], amounts), 0)
        return dot([worth(column[1]) for column in columns], amounts)

    def assert_most(self, columns, mix, total, shares, prices, jar_worths):
        self.assertTrue(is_fraction(total))
        self.assertEqual(self.assert_shares(columns, shares), worth(total))
        for d, number in enumerate(mix):
            self.assertEqual(sum(worth(share) for column, share in zip(columns, shares) if column[0] == d), number)
        self.assertTrue(are_fractions(prices) and are_fractions(jar_worths))
        self.assertEqual((len(prices), len(jar_worths)), (len(mix), len(columns[0][2])))
        self.assertGreaterEqual(min(worths(prices + jar_worths)), 0)
        for who, cost, effect in columns:
            most = 0 if who is None else worth(prices[who])
            self.assertLessEqual(worth(cost) + dot(effect, worths(jar_worths)), most)
        self.assertEqual(dot(worths(prices), mix), worth(total))

    def assert_endless(self, columns, shares):
        self.assertGreater(self.assert_shares(columns, shares), 0)
        for column, share in zip(columns, shares):
            if column[0] is not None:
                self.assertEqual(share, NOUGHT)

    def assert_weighed(self, columns, mix):
        told = weighed(columns, mix)
        self.assertIs(type(told), tuple)
        if told[0] == "most":
            self.assertEqual(len(told), 5)
            self.assert_most(columns, mix, *told[1:])
        else:
            self.assertEqual((told[0], len(told)), ("endless", 2))
            self.assert_endless(columns, told[1])
        return told

    def test_sums_known_ahead(self):
        for columns, mix, total in SUMS:
            for order in (columns, columns[::-1], columns[1:] + columns[:1], columns + columns):
                with self.subTest(columns=order, mix=mix):
                    told = self.assert_weighed(order, mix)
                    self.assertEqual(told[0], "endless" if total is None else "most")
                    if total is not None:
                        self.assertEqual(told[1], total)

    def test_two_that_go_round_two_jars(self):
        for forth, back, bringing in itertools.product((1, 2, 3), (1, 2, 3), (0, 1, 2)):
            for one, other in itertools.product((NOUGHT, (1, 2), (7, 1)), repeat=2):
                for mix in ((0,), (1,), (9,)):
                    told = self.assert_weighed(ring(one, other, forth, back, bringing), mix)
                    self.assertEqual(told[0], "most" if one == other == NOUGHT else "endless")

    def test_two_that_go_round_with_fewer(self):
        """Of each thing of x, so many of which make one of y, each of which makes one of x fewer."""
        for fewer in (1, 2, 5):
            for one, other in itertools.product((NOUGHT, (1, 2), (7, 1)), repeat=2):
                for mix in (0, 1, 9):
                    columns = (
                        (0, NOUGHT, (fewer + 1, 0)), (None, one, (-fewer - 1, 1)), (None, other, (1, -1)),
                    )
                    told = self.assert_weighed(columns, (mix,))
                    # Gone once by what the deed brings, and again by what is come back with.
                    times = mix * Fraction(fewer + 1, fewer)
                    self.assertEqual(told[:2], ("most", pair(times * (worth(one) + worth(other)))))

    def test_endless_whatever_the_mix(self):
        ended = 0
        chance = random.Random(91)
        for time in range(150):
            columns, mix = random_columns(chance)
            kinds = set()
            for other in (mix, (0,) * len(mix), (9,) * len(mix), (1,) + (0,) * (len(mix) - 1)):
                kinds.add(self.assert_weighed(columns, other)[0])
            self.assertEqual(len(kinds), 1)
            ended += kinds == {"most"}
        self.assertTrue(40 < ended < 130, ended)

    def test_many_columns(self):
        chance = random.Random(92)
        found = {"most": 0, "endless": 0}
        for time in range(800):
            found[self.assert_weighed(*random_columns(chance))[0]] += 1
        self.assertGreater(min(found.values()), 200)

    def test_small_columns_come_to_an_end(self):
        """Of effects and costs so small that many ways of holding the rows are worth the same."""
        chance = random.Random(93)
        for time in range(800):
            jars = chance.randint(2, 4)
            columns = [(d, (chance.randint(0, 1), 1), (0,) * jars) for d in range(4)]
            for number in range(20):
                effect = tuple(chance.choice((-1, 0, 0, 1)) for jar in range(jars))
                columns.append((chance.choice((0, 1, 2, 3, None, None)), (chance.randint(0, 1), 1), effect))
            self.assert_weighed(tuple(columns), tuple(chance.randint(0, 1) for d in range(4)))

    def test_no_rows_come_again(self):
        for columns, mix in COMING_AGAIN:
            self.assertEqual(self.assert_weighed(columns, mix)[0], "endless")

    def test_a_mix_of_noughts(self):
        chance = random.Random(94)
        for time in range(200):
            columns, mix = random_columns(chance)
            told = self.assert_weighed(columns, (0,) * len(mix))
            if told[0] == "most":
                self.assertEqual(told[1], NOUGHT)

    def test_the_most_are_24(self):
        chance = random.Random(95)
        for time in range(60):
            columns = [(d, NOUGHT, (0, 0, 0, 0)) for d in range(4)]
            while len(columns) < 24:
                who = chance.choice((0, 1, 2, 3, None, None))
                cost = pair(Fraction(chance.randint(0, 20000), chance.randint(2500, 2520)))
                # What no deed does loses things, of all jars together.
                effect = [chance.randint(-200, 200) for jar in range(4)]
                if who is not None or sum(effect) < 0:
                    columns.append((who, cost, tuple(effect)))
            told = self.assert_weighed(tuple(columns), (9, 8, 7, 0))
            self.assertEqual(told[0], "most")

    def test_asked_again_it_tells_the_same(self):
        chance = random.Random(96)
        for time in range(100):
            columns, mix = random_columns(chance)
            before = repr((columns, mix))
            told = weighed(columns, mix)
            self.assertEqual(weighed(columns, mix), told)
            self.assertEqual(repr((columns, mix)), before)
            self.assertLessEqual(samples.kinds_of(told), {"tuple", "int", "str"})

    def test_what_was_told_is_handed_on(self):
        """Costs that are sums told ahead, of whatever size."""
        columns = ((0, (1, 3), (5,)), (0, (2, 7), (-3,)), (None, (1, 11), (-1,)))
        for time in range(6):
            total = self.assert_weighed(columns, (7,))[1]
            columns = columns[1:] + ((0, total, (3 + time,)),)
            columns = columns if columns[0][0] == 0 else columns[1:] + columns[:1]
        self.assertGreater(total[1], 10)


if __name__ == "__main__":
    unittest.main()
