"""Promises 2, 3, 30 and 32: houses put beside one another, called anew, cut."""

import random
import unittest

import samples
from dueworth.dues import dues_told
from dueworth.errors import NoHouse
from dueworth.lines import line_count
from dueworth.looks import look
from dueworth.making import beside, called_anew, cut
from dueworth.reader import read_body, read_house
from dueworth.writer import show_house
from fillings import houses_of_lines
from sums import worth

# Names of jars and deeds that the houses of the tests have not.
OTHER_JARS = (("a", "ja"), ("b", "jb"), ("zz", "jz"), ("oil", "jo"), ("w", "jw"), ("x", "jx"), ("y", "jy"), ("z", "q"))
OTHER_DEEDS = (("oil", "da"), ("make", "db"), ("b", "dc"), ("mend", "dd"), ("a", "de"), ("c", "df"), ("d", "dg"))


def deep(x, y):
    """A body with puts and takes of two jars at many places."""
    return (f"(then (put {x} 1) (either (take {x} 2 (often (put {y} 3)) (take {y} 4 (pay 1) (put {x} 5)))"
            f" (often (take {x} 6 rest rest))))")


# A house's text, pairs for jars, pairs for deeds, the text of the house called anew.
ANEW = (
    ("jars x\ndeed a : (put x 1)", (), (), "jars x\ndeed a : (put x 1)"),
    ("jars x\ndeed a : (put x 1)", (("x", "y"),), (), "jars y\ndeed a : (put y 1)"),
    ("jars x\ndeed a : (put x 1)", (), (("a", "b"),), "jars x\ndeed b : (put x 1)"),
    ("jars x\ndeed a : (put x 1)", (("x", "x"),), (("a", "a"),), "jars x\ndeed a : (put x 1)"),
    # Jars' pairs for jars alone, deeds' for deeds.
    ("jars x\ndeed x : (put x 1)", (("x", "y"),), (), "jars y\ndeed x : (put y 1)"),
    ("jars x\ndeed x : (put x 1)", (), (("x", "y"),), "jars x\ndeed y : (put x 1)"),
    ("jars x\ndeed x : (put x 1)", (("x", "p"),), (("x", "q"),), "jars p\ndeed q : (put p 1)"),
    ("jars x\ndeed a : (put x 1)", (("a", "p"),), (("x", "q"),), "jars x\ndeed a : (put x 1)"),
    # Two exchanged.
    ("jars x y\ndeed a : (take x 1 (put y 2) (put x 3))\ndeed b : (put y 4)", (("x", "y"), ("y", "x")),
     (("b", "a"), ("a", "b")), "jars y x\ndeed b : (take y 1 (put x 2) (put y 3))\ndeed a : (put x 4)"),
    ("jars x y z\ndeed a : (take z 1 (put y 2) (put x 3))", (("x", "y"), ("y", "z"), ("z", "x")), (),
     "jars y z x\ndeed a : (take x 1 (put z 2) (put y 3))"),
    # One like another that stays: as written, not looked at.
    ("jars x y\ndeed a : (put x 1)\ndeed b : (put y 2)", (("x", "y"),), (("b", "a"),),
     "jars y y\ndeed a : (put y 1)\ndeed a : (put y 2)"),
    # Of what isn't there.
    ("jars x\ndeed a : (put x 1)", (("y", "z"), ("z", "x")), (("b", "c"), ("c", "a")), "jars x\ndeed a : (put x 1)"),
    ("jars x\ndeed a : (put x 1)", (("q", "r"), ("x", "z")), (("q", "r"), ("a", "z")), "jars z\ndeed z : (put z 1)"),
    # At any place.
    ("jars x y\ndeed a : " + deep("x", "y"), (("x", "longer"),), (), "jars longer y\ndeed a : " + deep("longer", "y")),
    ("jars x y\ndeed a : " + deep("x", "y"), (("y", "q"), ("x", "p")), (), "jars p q\ndeed a : " + deep("p", "q")),
    ("jars\ndeed a : rest\ndeed b : (pay 1)\ndeed c : rest", (), (("c", "a"), ("a", "c")),
     "jars\ndeed c : rest\ndeed b : (pay 1)\ndeed a : rest"),
)


def other_names(house):
    """A house like this one of other names."""
    return called_anew(house, OTHER_JARS, OTHER_DEEDS)


class TestBeside(unittest.TestCase):
    def assert_meets(self, one, other, name):
        with self.assertRaises(NoHouse) as caught:
            beside(read_house(one), read_house(other))
        self.assertEqual((caught.exception.word, caught.exception.name), ("meets", name))

    def test_jars_and_deeds_of_both(self):
        one = read_house("jars x y\ndeed a : (put x 1)\ndeed b : (put y 1)")
        other = read_house("jars w\ndeed d : (take w 1 (put w 2) rest)\ndeed c : rest")
        self.assertEqual(beside(one, other), (("x", "y", "w"), one[1] + other[1]))
        self.assertEqual(beside(other, one), (("w", "x", "y"), other[1] + one[1]))
        none = read_house("jars\ndeed e : (pay 1)")
        self.assertEqual(beside(one, none), (("x", "y"), one[1] + none[1]))
        self.assertEqual(beside(none, one), (("x", "y"), none[1] + one[1]))

    def test_deeds_called_like_jars_hinder_nothing(self):
        one = read_house("jars x y\ndeed a : (put x 1)")
        other = read_house("jars a\ndeed x : (put a 1)\ndeed y : rest")
        self.assertEqual(beside(one, other), (("x", "y", "a"), one[1] + other[1]))
        self.assertIs(look(beside(one, other)), True)

    def test_meets(self):
        self.assert_meets("jars x\ndeed a : rest", "jars x\ndeed b : rest", "x")
        self.assert_meets("jars\ndeed a : rest", "jars\ndeed a : rest", "a")
        # The first's first jar, or else deed, that the second has.
        self.assert_meets("jars w x y\ndeed a : rest", "jars y x\ndeed b : rest", "x")
        self.assert_meets("jars w y x\ndeed a : rest", "jars x q y\ndeed b : rest", "y")
        self.assert_meets("jars x\ndeed a : rest\ndeed b : rest\ndeed c : rest", "jars\ndeed c : rest\ndeed b : rest", "b")
        self.assert_meets("jars x\ndeed a : rest", "jars x\ndeed a : rest", "x")
        self.assert_meets("jars w x\ndeed a : rest\ndeed b : rest", "jars q x\ndeed a : rest", "x")
        self.assert_meets("jars x\ndeed y : rest\ndeed x : rest", "jars y\ndeed x : rest", "x")

    def test_many_houses(self):
        for house in houses_of_lines(161)[:80]:
            other = other_names(house)
            both = beside(house, other)
            self.assertEqual(both, (house[0] + other[0], house[1] + other[1]))
            self.assertIs(look(both), True)
            with self.assertRaises(NoHouse) as caught:
                beside(house, house)
            first = (house[0] + tuple(deed[0] for deed in house[1]))[0]
            self.assertEqual((caught.exception.word, caught.exception.name), ("meets", first))


class TestCalledAnew(unittest.TestCase):
    def test_told(self):
        for text, jars, deeds, anew in ANEW:
            with self.subTest(text=text, jars=jars, deeds=deeds):
                house = read_house(text)
                for jar_pairs, deed_pairs in ((jars, deeds), (jars[::-1], deeds[::-1])):
                    self.assertEqual(called_anew(house, jar_pairs, deed_pairs), read_house(anew))
                self.assertEqual(show_house(house), text)

    def test_there_and_back(self):
        for house in houses_of_lines(162) + samples.houses_let_by(60, 163):
            anew = other_names(house)
            self.assertIs(look(anew), True)
            self.assertEqual([name for name in house[0] if name in anew[0]], [])
            back = tuple((new, old) for old, new in OTHER_JARS), tuple((new, old) for old, new in OTHER_DEEDS)
            self.assertEqual(called_anew(anew, *back), house)
            self.assertEqual(called_anew(house, (), ()), house)

    def test_uses_stay(self):
        """A use's name is a deed's of another house, so it is called by neither pairs."""
        user = (("x",), (("a", ("then", ("use", "a"), ("then", ("use", "x"), ("put", "x", 1)))),))
        anew = called_anew(user, (("x", "y"),), (("a", "b"),))
        self.assertEqual(anew, (("y",), (("b", ("then", ("use", "a"), ("then", ("use", "x"), ("put", "y", 1)))),)))


class TestCut(unittest.TestCase):
    def test_without_the_deed_of_each_number(self):
        deeds = tuple((name, read_body(f"(pay {cost})")) for cost, name in enumerate("abcd"))
        for count in (2, 3, 4):
            for d in range(count):
                left = tuple(deed for number, deed in enumerate(deeds[:count]) if number != d)
                self.assertEqual(cut((("x",), deeds[:count]), d), (("x",), left))

    def test_many_houses(self):
        for house in houses_of_lines(164):
            for d in range(len(house[1]) if len(house[1]) > 1 else 0):
                left = list(house[1])
                left.pop(d)
                self.assertEqual(cut(house, d), (house[0], tuple(left)))
                self.assertIs(look(cut(house, d)), True)


class TestSumsOfMadeHouses(unittest.TestCase):
    def total(self, house, mix):
        """The sum told for a mix, or None where it is boundless."""
        told = dues_told(house, mix)
        return None if told[0] == "boundless" else worth(told[1])

    def test_beside(self):
        chance = random.Random(165)
        found = {True: 0, False: 0}
        houses = [house for house in houses_of_lines(166) if line_count(house) <= 12]
        chance.shuffle(houses)
        for one, other in zip(houses, houses[1:]):
            other = other_names(other)
            mix = tuple(chance.randint(0, 9) for deed in one[1])
            more = tuple(chance.randint(0, 9) for deed in other[1])
            alone, apart = self.total(one, mix), self.total(other, more)
            both = self.total(beside(one, other), mix + more)
            self.assertEqual(both, None if alone is None or apart is None else alone + apart)
            self.assertEqual(self.total(beside(other, one), more + mix), both)
            found[both is None] += 1
        self.assertGreater(min(found.values()), 20)

    def test_called_anew(self):
        chance = random.Random(167)
        for house in houses_of_lines(168):
            mix = tuple(chance.randint(0, 9) for deed in house[1])
            self.assertEqual(self.total(other_names(house), mix), self.total(house, mix))
            # Two jars, and two deeds, exchanged.
            names = [deed[0] for deed in house[1]]
            jars = tuple(zip(house[0], house[0][::-1]))
            anew = called_anew(house, jars, tuple(zip(names, names[::-1])))
            self.assertIs(look(anew), True)
            self.assertEqual(self.total(anew, mix), self.total(house, mix))

    def test_cut(self):
        chance = random.Random(169)
        cheaper = 0
        for house in houses_of_lines(170):
            for d in range(len(house[1]) if len(house[1]) > 1 else 0):
                mix = [chance.randint(0, 9) for deed in house[1]]
                mix[d] = 0
                ahead = self.total(house, tuple(mix))
                left = self.total(cut(house, d), tuple(mix[:d] + mix[d + 1:]))
                if ahead is not None:
                    self.assertIsNotNone(left)
                    self.assertLessEqual(left, ahead)
                cheaper += left != ahead
        self.assertGreater(cheaper, 20)

    def test_nothing_is_changed(self):
        for house in houses_of_lines(171)[:60]:
            other = other_names(house)
            before = repr((house, other, OTHER_JARS, OTHER_DEEDS))
            made = beside(house, other), called_anew(house, OTHER_JARS, OTHER_DEEDS)
            self.assertEqual((beside(house, other), called_anew(house, OTHER_JARS, OTHER_DEEDS)), made)
            cut(beside(house, other), 1)
            self.assertEqual(repr((house, other, OTHER_JARS, OTHER_DEEDS)), before)
            self.assertLessEqual(samples.kinds_of(made), {"tuple", "int", "str"})


if __name__ == "__main__":
    unittest.main()
