"""Promises 2, 6 and 7: bodies and houses, written and read."""

import math
import re
import unittest

import samples
from dueworth.errors import BadText
from dueworth.reader import read_body, read_house
from dueworth.writer import show_body, show_house
from samples import PAY, PUT, REST, USE

NAME = r"(?!(?:jars|deed|rest|pay|put|then|either|take|often|use)\b)[a-z]{1,6}"
# The one sign stands for a body that was seen to be one.
BODY = re.compile(
    rf"\((?:pay (?P<cost>0|[1-9][0-9]*(?:/[1-9][0-9]*)?)|put {NAME} [1-9]|use {NAME}|often @|then @ @|either @ @|"
    rf"take {NAME} [1-9] @ @)\)"
)
SIGNS = "() \n:a1/-0@x"

WRITTEN = {
    REST: "rest",
    PAY: "(pay 3/2)",
    ("pay", (0, 1)): "(pay 0)",
    ("pay", (12, 1)): "(pay 12)",
    ("pay", (10 ** 200, 3)): "(pay 1" + "0" * 200 + "/3)",
    PUT: "(put b 4)",
    USE: "(use d)",
    ("then", REST, PAY): "(then rest (pay 3/2))",
    ("either", PUT, REST): "(either (put b 4) rest)",
    ("take", "a", 9, PAY, USE): "(take a 9 (pay 3/2) (use d))",
    ("often", REST): "(often rest)",
    ("often", ("often", PUT)): "(often (often (put b 4)))",
    ("then", ("then", REST, PUT), ("either", ("often", USE), ("take", "sixsix", 1, REST, PAY))):
        "(then (then rest (put b 4)) (either (often (use d)) (take sixsix 1 rest (pay 3/2))))",
    ("often", ("then", ("either", ("take", "a", 1, ("often", PAY), REST), REST), REST)):
        "(often (then (either (take a 1 (often (pay 3/2)) rest) rest) rest))",
}

BAD_BODIES = (
    "", " ", "\n", "(", ")", "()", "( )", ")(", "(rest)", "rest ", " rest", "rest\n", "\nrest", "rest rest", "REST",
    "res", "rests", "restrest", "rest)", "(rest", "rest(", "pay", "pay 1", "(pay)", "(pay )", "( pay 1)", "(pay 1 )",
    "(pay  1)", "(pay 1", "pay 1)", "((pay 1))", "(pay 1))", "(pay 1)(", "(pay 1) ", " (pay 1)", "(pay 1)\n",
    "(pay 1) rest", "(pay 1)rest", "(pay 1 2)", "(pay -1)", "(pay -1/2)", "(pay -0)", "(pay 2/4)", "(pay 3/1)",
    "(pay 0/1)", "(pay 0/2)", "(pay 1/0)", "(pay 01)", "(pay +1)", "(pay 1/2/3)", "(pay 1/)", "(pay /2)", "(pay a)",
    "(pay 1.5)", "(pay 1_0)", "(pay (pay 1))", "(pay rest)", "(Pay 1)", "(pays 1)", "(pa 1)", "(pay1)", "(cost 1)",
    "(put)", "(put a)", "(put a )", "(put  a 1)", "(put a  1)", "(put a 0)", "(put a 10)", "(put a 01)", "(put a 1/2)",
    "(put a -1)", "(put a +1)", "(put a a)", "(put a 1 1)", "(put 1 a)", "(put 1)", "(put rest 1)", "(put jars 1)",
    "(put use 1)", "(put A 1)", "(put abcdefg 1)", "(put a1 1)", "(put a 1 rest)", "(put (a) 1)", "(put a (1))",
    "(put a\n1)", "(put a \u0661)", "(put a \u00b2)", "(put a 12)", "(put a 1a)", "(put a )", "(put a 1",
    "(use)", "(use )", "(use a b)", "(use rest)", "(use deed)", "(use 1)", "(use abcdefg)", "(use (use a))", "(use a",
    "(then)", "(then rest)", "(then rest rest rest)", "(then rest  rest)", "(then rest rest", "(then rest rest))",
    "(then rest rest )", "( then rest rest)", "(then(pay 1) rest)", "(then rest(pay 1))", "(then (pay 1)(pay 1))",
    "(then rest a)", "(then a rest)", "(then (rest) rest)", "(then rest, rest)", "(then rest\nrest)", "then rest rest",
    "(then rest (then rest rest)", "(then rest then rest rest)", "(then ( pay 1) rest)", "(then (pay 1 ) rest)",
    "(either)", "(either rest)", "(either rest rest rest)", "(eithe rest rest)", "(or rest rest)",
    "(take)", "(take a)", "(take a 1)", "(take a 1 rest)", "(take a 1 rest rest rest)", "(take a rest rest)",
    "(take 1 a rest rest)", "(take a 0 rest rest)", "(take a 10 rest rest)", "(take take 1 rest rest)",
    "(take a rest 1 rest)", "(take a 1 2 rest rest)", "(take a b 1 rest rest)",
    "(often)", "(often )", "(often rest rest)", "(often a)", "(often 1 rest)", "(often rest", "often rest",
    "(deed a)", "(jars a)", "jars", "jars a", "deed a : rest", "a", "1", "(1)", "(a)", "[pay 1]", "(pay 1]", ":",
)

# A house's text, and its first row that can't be one.
BAD_HOUSES = (
    ("", 0), ("\n", 0), (" ", 0), ("jars", 1), ("jars a", 1), ("jars a b", 1), ("jars\n", 1), ("jars a\n", 1),
    ("jars\n\n", 1), ("jar\ndeed a : rest", 0), ("jars \ndeed a : rest", 0), (" jars\ndeed a : rest", 0),
    ("jars  a\ndeed a : rest", 0), ("jars a  b\ndeed a : rest", 0), ("jars a \ndeed a : rest", 0),
    ("jars A\ndeed a : rest", 0), ("jars abcdefg\ndeed a : rest", 0), ("jars rest\ndeed a : rest", 0),
    ("jars a jars\ndeed a : rest", 0), ("jars jars\ndeed a : rest", 0), ("jars a1\ndeed a : rest", 0),
    ("jars a,b\ndeed a : rest", 0), ("jars (a)\ndeed a : rest", 0), ("jarsa\ndeed a : rest", 0),
    ("Jars\ndeed a : rest", 0), ("a jars\ndeed a : rest", 0), ("jars :\ndeed a : rest", 0),
    ("deed a : rest", 0), ("deed a : rest\njars", 0), ("deed a : rest\ndeed b : rest", 0), ("\njars\ndeed a : rest", 0),
    ("\ndeed a : rest", 0), ("rest", 0), ("rest\njars\n", 0), ("jars a 1\nrest", 0),
    ("jars\njars", 1), ("jars\njars\ndeed a : rest", 1), ("jars\n\ndeed a : rest", 1), ("jars a\njars b", 1),
    ("jars\ndeed a : rest\n", 2), ("jars\ndeed a : rest\n\n", 2), ("jars\ndeed a : rest\njars", 2),
    ("jars\ndeed a : rest\n\ndeed b : rest", 2), ("jars\ndeed a : rest\ndeed b : rest\njars a", 3),
    ("jars\ndeed", 1), ("jars\ndeed a", 1), ("jars\ndeed a :", 1), ("jars\ndeed a : ", 1), ("jars\ndeed : rest", 1),
    ("jars\ndeed a rest", 1), ("jars\na : rest", 1), ("jars\ndeed a: rest", 1), ("jars\ndeed a :rest", 1),
    ("jars\ndeed a:rest", 1), ("jars\ndeed  a : rest", 1), ("jars\ndeed a  : rest", 1), ("jars\ndeed a :  rest", 1),
    ("jars\n deed a : rest", 1), ("jars\ndeed a : rest ", 1), ("jars\ndeed a : : rest", 1),
    ("jars\ndeed a b : rest", 1),
    ("jars\ndeeds a : rest", 1), ("jars\nDeed a : rest", 1), ("jars\ndeed A : rest", 1), ("jars\ndeed deed : rest", 1),
    ("jars\ndeed use : rest", 1), ("jars\ndeed abcdefg : rest", 1), ("jars\ndeed a = rest", 1),
    ("jars\ndeed  : rest", 1),
    ("jars\ndeed a : rest rest", 1), ("jars\ndeed a : rest deed b : rest", 1), ("jars deed a : rest", 0),
    ("jars\ndeed a : (then rest\nrest)", 1), ("jars\ndeed a : rest\ndeed b : (pay -1)\ndeed", 2),
    ("jars\ndeed a : rest\ndeed b : rest\ndeed c : (put a 0)", 3), ("jars x\ndeed a : (put x 10)\n", 1),
    ("jars\ndeed a : rest\rdeed b : rest", 1), ("jars\r\ndeed a : rest", 0), ("jars\tx\ndeed a : rest", 0),
)


def seen_body(found):
    """The sign of a body for a text of the form, the text itself where its cost isn't in lowest terms."""
    cost = found.group("cost")
    if cost and "/" in cost:
        top, bottom = [int(figures) for figures in cost.split("/")]
        if bottom == 1 or math.gcd(top, bottom) > 1:
            return found.group()
    return "@"


def is_body_text(text):
    """Whether a text is a body's, told by taking the innermost bodies out of it until none is left."""
    if "@" in text:
        return False
    before = None
    after = re.sub(r"(?<![^ (])rest(?![^ )])", "@", text)
    while before != after:
        before = after
        after = BODY.sub(seen_body, before)
    return after == "@"


def bad_row(text):
    """The first row of a house's text that can't be one, None where there is none such."""
    rows = text.split("\n")
    if not re.fullmatch(rf"jars( {NAME})*", rows[0]):
        return 0
    for number, row in enumerate(rows[1:], start=1):
        head = re.match(rf"deed {NAME} : ", row)
        if not head or not is_body_text(row[head.end():]):
            return number
    return 1 if len(rows) == 1 else None


def near_texts(text):
    """All texts with one sign less, more, or otherwise, and with two neighbours exchanged."""
    for place in range(len(text) + 1):
        for sign in SIGNS:
            yield text[:place] + sign + text[place:]
            yield text[:place] + sign + text[place + 1:]
        yield text[:place] + text[place + 1:]
        yield text[:place] + text[place + 1:place + 2] + text[place:place + 1] + text[place + 2:]


class TextCase(unittest.TestCase):
    def assert_refused(self, read, text, row):
        with self.assertRaises(BadText) as caught:
            read(text)
        self.assertIs(type(caught.exception), BadText)
        self.assertEqual(caught.exception.row, row)


class TestBodyTexts(TextCase):
    def test_written_and_read(self):
        for body, text in WRITTEN.items():
            self.assertEqual(show_body(body), text)
            self.assertEqual(read_body(text), body)

    def test_each_head_within_each(self):
        for body in samples.ONE_OF_EACH:
            for other in samples.ONE_OF_EACH:
                for outer in (("then", body, other), ("either", body, other), ("take", "k", 3, body, other),
                              ("often", body)):
                    self.assert_read_again(outer)

    def assert_read_again(self, body):
        text = show_body(body)
        self.assertIs(type(text), str)
        self.assertTrue(is_body_text(text))
        told = read_body(text)
        self.assertEqual(told, body)
        self.assertLessEqual(samples.kinds_of(told), {"tuple", "str", "int"})
        self.assertEqual(show_body(told), text)

    def test_many_bodies(self):
        for body in samples.random_bodies(300, 6, 2):
            self.assert_read_again(body)

    def test_costs_of_any_size(self):
        for cost in ((10 ** 6, 1), (10 ** 700, 10 ** 700 - 1), (1, 10 ** 1400), (10 ** 5000 + 1, 1), (7, 10 ** 5000)):
            told = read_body(show_body(("then", ("pay", cost), REST)))
            self.assertEqual(told[1][1], cost)

    def test_each_number_of_things(self):
        for things in range(1, 10):
            self.assert_read_again(("take", "a", things, ("put", "b", things), REST))

    def test_refused(self):
        for text in BAD_BODIES:
            with self.subTest(text=text):
                self.assert_refused(read_body, text, 0)

    def test_texts_near_to_good_ones(self):
        for text in WRITTEN.values():
            for near in near_texts(text[-90:] if len(text) > 150 else text):
                self.assert_judged(near)

    def assert_judged(self, text):
        if is_body_text(text):
            self.assertEqual(show_body(read_body(text)), text)
        else:
            self.assert_refused(read_body, text, 0)

    def test_brackets_within_one_another(self):
        for head, tail in (("(often ", ")"), ("(then ", " rest)"), ("(then rest ", ")"), ("(either (pay 1) ", ")"),
                           ("(take a 1 ", " rest)"), ("(", ")"), ("((", "))"), ("(pay ", ")"), ("(put a ", ")")):
            for count in range(1, 13):
                for closed in range(count + 2):
                    for middle in ("rest", "(put a 1)", "", "(", ")", "1"):
                        self.assert_judged(head * count + middle + tail * closed)

    def test_brackets_somewhat_deeper(self):
        for count in (20, 100, 180):
            text = "(often " * count + "rest" + ")" * count
            self.assertEqual(show_body(read_body(text)), text)
            self.assert_refused(read_body, text[:-1], 0)
            self.assert_refused(read_body, text + ")", 0)
        self.assert_refused(read_body, "(" * 1500, 0)
        self.assert_refused(read_body, ")" * 1500, 0)
        self.assert_refused(read_body, "(then " * 240, 0)

    def test_asked_again(self):
        for again in range(3):
            self.assertEqual(read_body("(often (pay 3/2))"), ("often", PAY))
            self.assert_refused(read_body, "(often)", 0)


class TestHouseTexts(TextCase):
    def test_written_and_read(self):
        written = {
            ((), (("a", REST),)): "jars\ndeed a : rest",
            (("x",), (("a", ("put", "x", 1)),)): "jars x\ndeed a : (put x 1)",
            (("oil", "b"), (("make", PAY), ("b", ("take", "b", 2, PUT, REST)), ("c", ("often", PAY)))):
                "jars oil b\ndeed make : (pay 3/2)\ndeed b : (take b 2 (put b 4) rest)\ndeed c : (often (pay 3/2))",
            # Not let by, but of the form.
            (("x", "x"), (("a", REST), ("a", ("use", "q")), ("x", ("put", "y", 1)))):
                "jars x x\ndeed a : rest\ndeed a : (use q)\ndeed x : (put y 1)",
        }
        for house, text in written.items():
            self.assertEqual(show_house(house), text)
            self.assertEqual(read_house(text), house)

    def assert_read_again(self, house):
        text = show_house(house)
        self.assertIs(type(text), str)
        self.assertIsNone(bad_row(text))
        told = read_house(text)
        self.assertEqual(told, house)
        self.assertLessEqual(samples.kinds_of(told), {"tuple", "str", "int"})

    def test_many_houses(self):
        for house in samples.random_houses(150, 3):
            self.assert_read_again(house)

    def test_more_jars_and_deeds_than_houses_have(self):
        names = ["".join((one, other)) for one in "abcde" for other in "vwxyz"]
        for count in (0, 1, 4, 5, 25):
            jars = tuple(names[:count])
            deeds = tuple((name, ("put", "aa", 1)) for name in names[:count + 1])
            self.assert_read_again((jars, deeds))

    def test_costs_of_any_size(self):
        for cost in ((10 ** 6 + 1, 10 ** 6), (3 ** 900, 2 ** 1300), (10 ** 5000, 1)):
            house = ((), (("a", ("either", ("pay", cost), REST)),))
            self.assertEqual(read_house(show_house(house)), house)

    def test_refused(self):
        for text, row in BAD_HOUSES:
            with self.subTest(text=text):
                self.assert_refused(read_house, text, row)

    def test_each_bad_body_refused_by_its_row(self):
        for text in BAD_BODIES:
            if "\n" not in text:
                with self.subTest(text=text):
                    self.assert_refused(read_house, "jars\ndeed a : " + text, 1)
                    self.assert_refused(read_house, "jars a\ndeed a : rest\ndeed b : " + text + "\ndeed", 2)

    def test_texts_near_to_good_ones(self):
        for text in ("jars\ndeed a : rest", "jars oil b\ndeed a : (take b 2 (put b 4) rest)\ndeed c : (pay 3/2)",
                     "jars x x\ndeed a : (often (use q))\ndeed a : (either (pay 0) (then rest rest))"):
            for near in near_texts(text):
                row = bad_row(near)
                if row is None:
                    self.assertEqual(show_house(read_house(near)), near)
                else:
                    self.assert_refused(read_house, near, row)

    def test_nothing_that_is_handed_in_is_changed(self):
        house = (("x",), (("a", ("often", ("put", "x", 1))),))
        before = repr(house)
        self.assertEqual(show_house(house), show_house(house))
        self.assertEqual(show_body(house[1][0][1]), show_body(house[1][0][1]))
        self.assertEqual(repr(house), before)
        text = show_house(house)
        self.assertEqual(read_house(text), read_house(text))


if __name__ == "__main__":
    unittest.main()
