"""Promises 2, 3, 31 and 32: users of another house's deeds."""

import random
import unittest

import samples
from dueworth.bodies import uses_in
from dueworth.charts import chart
from dueworth.dues import dues_told
from dueworth.filling import filling
from dueworth.lines import line_count
from dueworth.looks import look, look_user
from dueworth.making import called_anew
from dueworth.papers import paper_by, paper_holds
from dueworth.reader import read_body, read_house
from dueworth.rows import rows_come_to
from dueworth.using import joined, priced
from fillings import houses_of_lines
from ledgers import random_worths
from sums import worth

HOUSE = read_house("jars x\ndeed a : (put x 2)\ndeed b : (take x 1 (pay 3) (pay 1/2))\ndeed c : rest")
A, B, C = [body for name, body in HOUSE[1]]

# Bodies with uses, and the same with what stands in their place.
PLACES = (
    ("(use a)", "{a}"),
    ("(then (use a) (use b))", "(then {a} {b})"),
    ("(either (use b) (use a))", "(either {b} {a})"),
    ("(take p 2 (use a) (use c))", "(take p 2 {a} {c})"),
    ("(often (use b))", "(often {b})"),
    ("(often (then (either (use a) rest) (take p 1 (often (use b)) (use a))))",
     "(often (then (either {a} rest) (take p 1 (often {b}) {a})))"),
    ("(then (use a) (then (pay 7) (then (use a) (put p 1))))", "(then {a} (then (pay 7) (then {a} (put p 1))))"),
    ("(pay 1)", "(pay 1)"),
    ("(put p 1)", "(put p 1)"),
    ("rest", "rest"),
)
PRICES = (("a", (5, 2)), ("b", (0, 1)), ("c", (999, 7)))
PAYS = {"a": "(pay 5/2)", "b": "(pay 0)", "c": "(pay 999/7)"}
BODIES = {"a": "(put x 2)", "b": "(take x 1 (pay 3) (pay 1/2))", "c": "rest"}


def with_uses(chance, body, names):
    """A body like this one with uses in the place of some of its pays, puts and rests."""
    if body[0] in ("rest", "pay", "put") and chance.random() < 0.4:
        return ("use", chance.choice(names))
    sides = samples.sides_of(body)
    return body[:len(body) - len(sides)] + tuple(with_uses(chance, side, names) for side in sides)


def random_user(chance, house, number):
    """A user of a house's deeds, its jars called by a letter and a number's letter."""
    own = chance.choice(samples.rich_houses(8, chance.randint(0, 10 ** 6), things=3))
    own = (own[0], own[1][:2])
    own = called_anew(own, tuple((jar, f"{number}j{place}") for jar, place in zip(own[0], "abcd")), ())
    names = [deed[0] for deed in house[1]]
    return (own[0], tuple((name, with_uses(chance, body, names)) for name, body in own[1]))


def dues_of(house, paper):
    """Pairs of a deed's name and its due."""
    return tuple((deed[0], lefts[0]) for deed, lefts in zip(house[1], paper[1]))


class TestPriced(unittest.TestCase):
    def test_at_any_place(self):
        for used, made in PLACES:
            user = (("p",), (("d", read_body(used)), ("e", ("use", "b"))))
            self.assertIs(look_user(user, HOUSE), True)
            expected = (("p",), (("d", read_body(made.format(**PAYS))), ("e", ("pay", (0, 1)))))
            for prices in (PRICES, PRICES[::-1], PRICES + (("q", (1, 1)),), (("zz", (7, 1)),) + PRICES):
                self.assertEqual(priced(user, prices), expected)
            self.assertIs(look(expected), True)

    def test_pairs_of_deeds_that_are_not_used(self):
        user = (("p",), (("d", ("use", "b")),))
        for prices in ((("b", (1, 9)),), (("a", (2, 1)), ("b", (1, 9))), PRICES[:1] + (("b", (1, 9)),) + PRICES[2:]):
            self.assertEqual(priced(user, prices), (("p",), (("d", ("pay", (1, 9))),)))
        none = read_house("jars p\ndeed d : (put p 1)")
        self.assertEqual(priced(none, ()), none)
        self.assertEqual(priced(none, PRICES), none)

    def test_deeds_called_like_the_others(self):
        user = (("b",), (("a", ("then", ("use", "a"), ("use", "b"))), ("b", ("use", "a"))))
        self.assertIs(look_user(user, HOUSE), True)
        pays = ("pay", (5, 2)), ("pay", (0, 1))
        self.assertEqual(priced(user, PRICES), (("b",), (("a", ("then",) + pays), ("b", pays[0]))))


class TestJoined(unittest.TestCase):
    def test_at_any_place(self):
        for used, made in PLACES:
            user = (("p", "q"), (("d", read_body(used)), ("e", ("use", "c"))))
            expected = (("p", "q", "x"), (("d", read_body(made.format(**BODIES))), ("e", C)))
            self.assertEqual(joined(user, HOUSE), expected)
            self.assertIs(look(expected), True)

    def test_deeds_called_like_the_others(self):
        user = (("b",), (("a", ("then", ("use", "a"), ("use", "b"))), ("b", ("use", "a"))))
        self.assertEqual(joined(user, HOUSE), (("b", "x"), (("a", ("then", A, B)), ("b", A))))

    def test_without_jars(self):
        user = ((), (("d", ("often", ("use", "a"))),))
        self.assertEqual(joined(user, HOUSE), (("x",), (("d", ("often", A)),)))
        bare = read_house("jars\ndeed a : (pay 1)")
        self.assertEqual(joined(user, bare), ((), (("d", ("often", ("pay", (1, 1)))),)))
        self.assertEqual(joined((("p",), user[1]), bare), (("p",), (("d", ("often", ("pay", (1, 1)))),)))

    def test_users_of_users(self):
        """A user of a user is one of the other house, its uses by that one's deeds, whatever they are called."""
        first = (("p",), (("b", ("then", ("use", "a"), ("use", "c"))), ("a", ("often", ("use", "b")))))
        second = (("q",), (("a", ("either", ("use", "a"), ("use", "b"))),))
        between = joined(second, first)
        self.assertEqual(between[0], ("q", "p"))
        self.assertIs(look_user(between, HOUSE), True)
        body = ("either", ("often", B), ("then", A, C))
        self.assertEqual(joined(between, HOUSE), (("q", "p", "x"), (("a", body),)))
        self.assertEqual(joined(second, joined(first, HOUSE)), joined(between, HOUSE))

    def test_nothing_is_changed(self):
        user = (("p",), (("d", read_body(PLACES[5][0])),))
        before = repr((user, HOUSE, PRICES))
        made = priced(user, PRICES), joined(user, HOUSE)
        self.assertEqual((priced(user, PRICES), joined(user, HOUSE)), made)
        self.assertEqual(repr((user, HOUSE, PRICES)), before)
        self.assertLessEqual(samples.kinds_of(made), {"tuple", "int", "str"})


class TestPapersOfUsers(unittest.TestCase):
    def assert_joined(self, user, house, by_user, by_house):
        """A paper of the joined house where both have one; told is whether they have."""
        told = paper_by(house, by_house)
        if told[0] != "paper":
            return False
        with_pays = priced(user, dues_of(house, told[1]))
        self.assertIs(look(with_pays), True)
        of_user = paper_by(with_pays, by_user)
        if of_user[0] != "paper":
            return False
        whole = joined(user, house)
        self.assertIs(look(whole), True)
        of_whole = paper_by(whole, by_user + by_house)
        self.assertEqual(of_whole[0], "paper")
        self.assertIs(paper_holds(whole, of_whole[1]), True)
        for (name, due), (same, most) in zip(dues_of(whole, of_whole[1]), dues_of(with_pays, of_user[1])):
            self.assertEqual(name, same)
            self.assertLessEqual(worth(due), worth(most))
        return True

    def worths_of(self, chance, house):
        """Worths that were told, or any."""
        told = dues_told(house, (1,) * len(house[1]))
        if told[0] == "dues" and chance.random() < 0.6:
            return told[2][0]
        return random_worths(chance, house, chance.choice((1, 9, 999)))

    def test_many_users(self):
        chance = random.Random(181)
        held = behind = 0
        for house in houses_of_lines(182):
            user = random_user(chance, house, "k")
            self.assertIs(look_user(user, house), True)
            if line_count(joined(user, house)) <= 24:
                by_house = self.worths_of(chance, house)
                told = paper_by(house, by_house)
                if told[0] == "paper":
                    by_user = self.worths_of(chance, priced(user, dues_of(house, told[1])))
                    if self.assert_joined(user, house, by_user, by_house):
                        held += 1
                        behind += self.uses_behind(user)
        self.assertGreater(held, 40)
        self.assertGreater(behind, 3)

    def uses_behind(self, user):
        """Whether a use stands behind a take of a jar that isn't fillable."""
        used = sorted({name for deed in user[1] for name in uses_in(deed[1])})
        for deed, come_to in zip(user[1], rows_come_to(priced(user, tuple((name, (1, 1)) for name in used)))):
            rows = chart(deed[1])
            if any(row[0] == "use" and number not in come_to for number, row in enumerate(rows)):
                return True
        return False

    def test_behind_a_take_of_a_jar_that_is_not_fillable(self):
        user = (("p",), (("d", read_body("(take p 1 (then (use b) (often (use a))) (use b))")),))
        whole = joined(user, HOUSE)
        # Neither p nor x: what brings things into x stands behind a take of p.
        self.assertEqual(filling(whole), [])
        for jar, left in (((1, 1), (2, 1)), ((0, 1), (3, 1)), ((3, 1), (1, 2))):
            self.assertIs(self.assert_joined(user, HOUSE, ((0, 1),), (jar,)), True)
            self.assertEqual(dues_of(HOUSE, paper_by(HOUSE, (jar,))[1])[1], ("b", left))
            self.assertEqual(dues_of(whole, paper_by(whole, ((0, 1), jar))[1]), (("d", (1, 2)),))

    def test_users_of_users(self):
        chance = random.Random(183)
        held = 0
        for house in houses_of_lines(184):
            first = random_user(chance, house, "k")
            between = joined(first, house)
            second = random_user(chance, between, "m")
            if line_count(joined(second, between)) <= 24:
                by_house = self.worths_of(chance, house)
                told = paper_by(house, by_house)
                if told[0] == "paper":
                    by_first = self.worths_of(chance, priced(first, dues_of(house, told[1])))
                    by_second = random_worths(chance, second, 9)
                    if self.assert_joined(first, house, by_first, by_house):
                        held += self.assert_joined(second, between, by_second, by_first + by_house)
                self.assertEqual(joined(joined(second, first), house), joined(second, between))
        self.assertGreater(held, 15)


if __name__ == "__main__":
    unittest.main()
