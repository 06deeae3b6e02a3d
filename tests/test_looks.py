"""Promises 2, 8 and 9: houses and users, looked at."""

import re
import unittest

import samples
from dueworth.errors import NoHouse
from dueworth.looks import look, look_user
from dueworth.writer import show_body
from samples import PAY, REST

LET_BY = (
    ((), (("a", REST),)),
    ((), (("a", PAY), ("b", ("often", PAY)))),
    (("x",), (("a", ("put", "x", 1)), ("b", ("take", "x", 2, REST, ("put", "x", 9))))),
    (("x", "y"), (("a", ("either", ("put", "y", 1), ("then", ("put", "x", 1), REST))),)),
    # A jar called like a deed, one called like both, and jars that nothing speaks of.
    (("a", "b", "c"), (("a", ("put", "a", 1)), ("b", ("put", "a", 1)), ("q", REST))),
    (tuple("abcdef"), tuple((name, ("put", "f", 1)) for name in "abcdef")),
)

# A house, and what it is refused with.
REFUSED = (
    ((("x", "x"), (("a", REST),)), "twice", "x"),
    ((("x", "y", "x"), (("a", REST),)), "twice", "x"),
    ((("x", "y", "y", "x"), (("a", REST),)), "twice", "y"),
    ((("x", "y", "x", "y"), (("a", REST),)), "twice", "x"),
    (((), (("a", REST), ("a", REST))), "twice", "a"),
    (((), (("a", REST), ("b", REST), ("c", REST), ("b", REST), ("a", REST))), "twice", "b"),
    (((), (("a", ("put", "x", 1)),)), "unknown", "x"),
    (((), (("a", ("take", "x", 1, REST, REST)),)), "unknown", "x"),
    ((("x",), (("a", ("put", "y", 1)),)), "unknown", "y"),
    ((("x",), (("y", ("put", "y", 1)),)), "unknown", "y"),
    ((("x",), (("a", ("often", ("take", "x", 1, REST, ("put", "y", 1)))),)), "unknown", "y"),
    ((("x",), (("a", ("use", "b")),)), "use", "b"),
    ((("x",), (("a", ("use", "a")),)), "use", "a"),
    ((("x",), (("a", ("use", "x")),)), "use", "x"),
    ((("x",), (("a", REST), ("b", ("either", REST, ("often", ("use", "a")))))), "use", "a"),
    # Of several, the first that is due.
    ((("x", "x"), (("a", ("use", "q")), ("a", ("put", "z", 1)))), "twice", "x"),
    ((("x",), (("a", ("use", "q")), ("a", REST))), "use", "q"),
    ((("x",), (("a", ("put", "z", 1)), ("a", REST))), "unknown", "z"),
    ((("x",), (("a", REST), ("a", ("put", "z", 1)))), "twice", "a"),
    ((("x",), (("a", REST), ("a", ("use", "z")), ("b", ("put", "q", 1)))), "twice", "a"),
    ((("x",), (("a", ("then", ("put", "z", 1), ("use", "q"))),)), "unknown", "z"),
    ((("x",), (("a", ("then", ("use", "q"), ("put", "z", 1))),)), "use", "q"),
    ((("x",), (("a", ("take", "z", 1, ("use", "q"), ("put", "w", 1))),)), "unknown", "z"),
    ((("x",), (("a", ("take", "x", 1, ("use", "q"), ("put", "w", 1))),)), "use", "q"),
    ((("x",), (("a", ("take", "x", 1, REST, ("put", "w", 1))), ("b", ("use", "q")))), "unknown", "w"),
    ((("x",), (("a", ("either", ("then", REST, ("put", "v", 1)), ("use", "q"))),)), "unknown", "v"),
    ((("x",), (("a", ("then", ("often", ("use", "w")), ("take", "v", 1, REST, REST))),)), "use", "w"),
    ((("x",), (("a", ("then", ("use", "u"), ("use", "v"))),)), "use", "u"),
    ((("x",), (("a", ("then", ("put", "u", 1), ("put", "v", 1))),)), "unknown", "u"),
)

HOUSE = (("oil", "b"), (("make", REST), ("d", ("put", "oil", 1))))

USERS_LET_BY = (
    ((), (("a", ("use", "make")),)),
    (("x",), (("a", ("then", ("use", "d"), ("take", "x", 1, ("use", "make"), ("use", "d")))),)),
    (("x",), (("make", ("use", "make")), ("d", REST), ("oil", ("use", "d")), ("b", ("put", "x", 1)))),
    (("make", "d"), (("a", ("put", "make", 1)), ("make", ("put", "d", 1)))),
    ((), (("a", REST),)),
)

USERS_REFUSED = (
    ((("oil",), (("a", REST),)), "meets", "oil"),
    ((("x", "b", "oil"), (("a", REST),)), "meets", "b"),
    ((("x", "x", "oil"), (("a", ("use", "q")), ("a", ("put", "z", 1)))), "meets", "oil"),
    ((("oil", "oil"), (("a", REST),)), "meets", "oil"),
    ((("x", "x"), (("a", ("use", "q")),)), "twice", "x"),
    ((("x",), (("a", ("use", "q")),)), "unknown", "q"),
    ((("x",), (("a", ("use", "oil")),)), "unknown", "oil"),
    ((("x",), (("a", ("use", "x")),)), "unknown", "x"),
    ((("x",), (("a", ("use", "a")),)), "unknown", "a"),
    ((("x",), (("a", REST), ("a", ("use", "q")))), "twice", "a"),
    ((("x",), (("a", ("use", "q")), ("a", REST))), "unknown", "q"),
    ((("x",), (("a", ("put", "oil", 1)),)), "unknown", "oil"),
    ((("x",), (("a", ("take", "b", 1, REST, REST)),)), "unknown", "b"),
    ((("x",), (("a", ("then", ("use", "make"), ("put", "y", 1))),)), "unknown", "y"),
    ((("x",), (("a", ("then", ("use", "q"), ("put", "y", 1))),)), "unknown", "q"),
    ((("x",), (("a", ("then", ("put", "y", 1), ("use", "q"))),)), "unknown", "y"),
    ((("x",), (("a", ("take", "y", 1, ("use", "q"), REST)),)), "unknown", "y"),
)


def due(house, usable):
    """What is due first, told by the words of the bodies' texts; None where nothing is."""
    jars, deeds = house
    for number, jar in enumerate(jars):
        if jars.index(jar) < number:
            return ("twice", jar)
    for number, (name, body) in enumerate(deeds):
        if [deed[0] for deed in deeds].index(name) < number:
            return ("twice", name)
        for head, word in re.findall(r"\((put|take|use) ([a-z]+)", show_body(body)):
            if head != "use" and word not in jars:
                return ("unknown", word)
            if head == "use" and usable is None:
                return ("use", word)
            if head == "use" and word not in usable:
                return ("unknown", word)
    return None


class TestLooks(unittest.TestCase):
    def assert_refused(self, word, name, ask, *houses):
        with self.assertRaises(NoHouse) as caught:
            ask(*houses)
        self.assertIs(type(caught.exception), NoHouse)
        self.assertEqual((caught.exception.word, caught.exception.name), (word, name))

    def test_let_by(self):
        for house in LET_BY:
            self.assertIs(look(house), True)

    def test_refused(self):
        for house, word, name in REFUSED:
            with self.subTest(house=house):
                self.assert_refused(word, name, look, house)

    def test_users_let_by(self):
        for user in USERS_LET_BY:
            self.assertIs(look_user(user, HOUSE), True)

    def test_users_refused(self):
        for user, word, name in USERS_REFUSED:
            with self.subTest(user=user):
                self.assert_refused(word, name, look_user, user, HOUSE)

    def test_a_user_without_uses_is_looked_at_like_a_house(self):
        other = (("qq",), (("w", REST),))
        for house in LET_BY:
            self.assertIs(look_user(house, other), True)
        for house, word, name in REFUSED:
            if word != "use":
                self.assert_refused(word, name, look_user, house, (("qq",), (("q", REST),)))

    def test_many_houses(self):
        let_by = 0
        for number, house in enumerate(samples.random_houses(400, 4)):
            deeds = tuple((name + "q" * place, body) for place, (name, body) in enumerate(house[1]))
            for one in (house, (samples.NAMES, house[1]), (samples.NAMES, deeds)):
                for usable in (None, samples.NAMES[:3], samples.NAMES):
                    let_by += self.judged(one, usable)
        self.assertGreater(let_by, 200)

    def judged(self, house, usable):
        """Asserts that a house is judged as is due; 1 where it is let by."""
        fault = due(house, usable)
        ask = (look, house)
        if usable is not None:
            ask = (look_user, house, (("q",), tuple((name, REST) for name in usable)))
        if fault:
            self.assert_refused(*fault, *ask)
            return 0
        self.assertIs(ask[0](*ask[1:]), True)
        return 1

    def test_nothing_is_changed_and_asked_again_it_is_told_again(self):
        before = repr((LET_BY, REFUSED, USERS_REFUSED, HOUSE))
        for again in range(2):
            self.test_let_by()
            self.test_refused()
            self.test_users_refused()
        self.assertEqual(repr((LET_BY, REFUSED, USERS_REFUSED, HOUSE)), before)


if __name__ == "__main__":
    unittest.main()
