"""Promises 2 and 6: bodies, their parts and the names in them."""

import unittest

import samples
from dueworth.bodies import jars_in, parts, uses_in, within
from samples import PAY, PUT, REST, USE

# A body, and of it: parts, parts one within another, jars, uses.
TOLD = (
    (REST, 1, 1, [], []),
    (PAY, 1, 1, [], []),
    (PUT, 1, 1, ["b"], []),
    (USE, 1, 1, [], ["d"]),
    (("then", PAY, PUT), 3, 2, ["b"], []),
    (("then", REST, REST), 3, 2, [], []),
    (("either", PUT, USE), 3, 2, ["b"], ["d"]),
    (("take", "a", 2, REST, REST), 3, 2, ["a"], []),
    (("take", "z", 2, PUT, USE), 3, 2, ["b", "z"], ["d"]),
    (("often", USE), 2, 2, [], ["d"]),
    (("often", ("often", ("often", PUT))), 4, 4, ["b"], []),
    (("then", ("then", REST, ("often", PUT)), PAY), 6, 4, ["b"], []),
    (("then", PAY, ("then", REST, ("often", PUT))), 6, 4, ["b"], []),
    (("then", PUT, PUT), 3, 2, ["b"], []),
    (("either", ("take", "b", 1, PUT, PUT), ("take", "b", 1, USE, USE)), 7, 3, ["b"], ["d"]),
)


def counted(body):
    """A body's parts, and those one within another, by a walk over all that is built like a body."""
    sides = [thing for thing in body[1:] if isinstance(thing, tuple) and isinstance(thing[0], str)]
    under = [counted(side) for side in sides]
    return (1 + sum(one[0] for one in under), 1 + max([one[1] for one in under], default=0))


class TestBodies(unittest.TestCase):
    def test_told(self):
        for body, count, deep, jars, uses in TOLD:
            with self.subTest(body=body):
                self.assertEqual(parts(body), count)
                self.assertEqual(within(body), deep)
                self.assertEqual(jars_in(body), jars)
                self.assertEqual(uses_in(body), uses)

    def test_each_head_in_each_place(self):
        for body in samples.ONE_OF_EACH:
            self.assertEqual(parts(("often", body)), 1 + parts(body))
            self.assertEqual(within(("often", body)), 1 + within(body))
            for other in samples.ONE_OF_EACH:
                for outer in (("then", body, other), ("either", body, other), ("take", "k", 1, body, other)):
                    more = ["k"] if outer[0] == "take" else []
                    self.assertEqual(parts(outer), 1 + parts(body) + parts(other))
                    self.assertEqual(within(outer), 1 + max(within(body), within(other)))
                    self.assertEqual(jars_in(outer), sorted(set(jars_in(body) + jars_in(other) + more)))
                    self.assertEqual(uses_in(outer), sorted(set(uses_in(body) + uses_in(other))))

    def test_a_part_that_stands_twice_counts_twice(self):
        body = PUT
        for count in (3, 7, 15):
            body = ("then", body, body)
            self.assertEqual(parts(body), count)
            self.assertEqual(jars_in(body), ["b"])

    def test_names_rise(self):
        body = REST
        for name in ("m", "z", "a", "mm", "b", "za", "a"):
            body = ("then", ("then", ("use", name), body), ("take", name, 9, ("put", name, 1), REST))
        self.assertEqual(jars_in(body), ["a", "b", "m", "mm", "z", "za"])
        self.assertEqual(uses_in(body), ["a", "b", "m", "mm", "z", "za"])

    def test_jars_and_uses_are_kept_apart(self):
        body = ("take", "x", 1, ("use", "y"), ("put", "z", 1))
        self.assertEqual(jars_in(body), ["x", "z"])
        self.assertEqual(uses_in(body), ["y"])

    def test_many_bodies(self):
        for body in samples.random_bodies(300, 6, 1):
            self.assertEqual((parts(body), within(body)), counted(body))
            for told in (jars_in(body), uses_in(body)):
                self.assertIs(type(told), list)
                self.assertEqual(told, sorted(set(told)))

    def test_deep_bodies(self):
        body = PUT
        for count in range(2, 101):
            body = ("often", body)
            self.assertEqual((parts(body), within(body)), (count, count))
        self.assertEqual(jars_in(body), ["b"])

    def test_lists_are_the_askers_own(self):
        body = ("take", "a", 1, ("put", "b", 2), ("then", ("use", "d"), ("use", "e")))
        for ask, told in ((jars_in, ["a", "b"]), (uses_in, ["d", "e"])):
            first = ask(body)
            second = ask(body)
            self.assertIsNot(first, second)
            first.append("q")
            second.clear()
            self.assertEqual(ask(body), told)
        empty = uses_in(REST)
        empty.append("q")
        self.assertEqual(uses_in(REST), [])
        self.assertEqual(jars_in(REST), [])

    def test_nothing_that_is_handed_in_is_changed(self):
        body = ("take", "a", 1, ("put", "b", 2), ("then", ("use", "d"), ("pay", (1, 2))))
        text = repr(body)
        for ask in (parts, within, jars_in, uses_in):
            self.assertEqual(ask(body), ask(body))
        self.assertEqual(repr(body), text)


if __name__ == "__main__":
    unittest.main()
