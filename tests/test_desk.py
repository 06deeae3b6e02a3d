"""Promises 2 and 33: the desk."""

import random
import unittest
from fractions import Fraction

from dueworth.desk import answered
from dueworth.dues import dues_told
from dueworth.errors import BadText, DueError, NoHouse, NoRow, TooMany
from dueworth.filling import filling
from dueworth.fractions import read_fraction, show_fraction
from dueworth.lines import lines
from dueworth.papers import paper_by
from dueworth.rows import rows_come_to
from dueworth.writer import show_house
from fillings import HOUSES, houses_of_lines
from ledgers import random_worths
from samples import pair
from sums import dot, worth, worths

MILL = "jars grain\ndeed reap : (put grain 2)\ndeed mill : (often (take grain 3 (pay 6) rest))"
BARE = "jars\ndeed a : (pay 1/2)\ndeed b : (either (pay 2) (pay 3))"
DRY = "jars x y\ndeed a : (take x 1 (pay 9) (put y 1))\ndeed b : (take y 2 (pay 3) (take x 1 (often (pay 1)) rest))"
ENDLESS = "jars x\ndeed a : (put x 1)\ndeed b : (take x 2 (often (pay 1/9)) rest)"

# A house's text, a row, and the answer.
ANSWERS = (
    (MILL, "fills", "grain"),
    (MILL, "rows", "reap 2 mill 4"),
    (MILL, "lines", "4"),
    (MILL, "due 3 0", "12"),
    (MILL, "due 1 9", "4"),
    (MILL, "due 0 0", "0"),
    (MILL, "by 2", "4 0"),
    (MILL, "by 5/2", "5 0"),
    (MILL, "by 0", "round mill"),
    (MILL, "by 1999/1000", "round mill"),
    (MILL, "over 3 0 4 0 0", "no"),
    (MILL, "over 3 0 4 1000000 1000000", "no"),
    (MILL, "over 3 1 4 0 0", "no"),
    (MILL, "over 3 1 3 3 0", "no"),
    (MILL, "over 0 0 0 0 0", "no"),
    (MILL, "over 0 9 0 0 0", "no"),
    # Without jars.
    (BARE, "fills", "none"),
    (BARE, "rows", "a 2 b 4"),
    (BARE, "lines", "3"),
    (BARE, "due 1 2", "13/2"),
    (BARE, "by", "1/2 3"),
    (BARE, "over 1 2 1/2 3 0", "no"),
    (BARE, "over 1 2 13/2 0 9", "no"),
    # With jars that aren't fillable.
    (DRY, "fills", "y"),
    (DRY, "rows", "a 3 b 4"),
    (DRY, "lines", "3"),
    (DRY, "due 2 1", "3"),
    (DRY, "due 1 1", "3/2"),
    (DRY, "by 7 1", "1 1"),
    (DRY, "by 0 0", "0 3"),
    (DRY, "over 2 1 1 1 0", "no"),
    ("jars x\ndeed a : (take x 1 (put x 9) rest)", "fills", "none"),
    ("jars x\ndeed a : (take x 1 (put x 9) rest)", "rows", "a 2"),
    ("jars d c b a\ndeed a : (take b 1 (put d 1) (put b 1))", "fills", "d b"),
    (ENDLESS, "due 0 0", "boundless"),
    (ENDLESS, "due 9 1", "boundless"),
    (ENDLESS, "by 5", "round b"),
    (ENDLESS, "lines", "4"),
    ("jars\ndeed a : rest", "due 9", "0"),
    ("jars\ndeed a : rest", "by", "0"),
    ("jars\ndeed a : rest", "rows", "a 1"),
    ("jars\ndeed due : rest\ndeed by : (often (pay 1))", "by", "round by"),
)

# Of MILL: one jar, two deeds.
NO_ROWS = (
    "", " ", "fill", "Fills", "FILLS", "fills ", " fills", "fills fills", "fills 1", "fills grain", "fills\n", "\nfills",
    "rows ", " rows", "rows 1", "rows reap", "row", "line", "lines 1", "lines ", "lines lines", "none", "help",
    "due", "due ", "due 3", "due 3 ", "due  3 0", "due 3  0", " due 3 0", "due 3 0 ", "due 3 0 0", "due 3 00", "due 03 0",
    "due 10 0", "due 3 10", "due -1 0", "due 3 -0", "due 3 1/2", "due 3 x", "due 3\t0", "due 3\n0", "due 3,0", "due3 0",
    "due 3 0\n", "due 3 +1", "due 3 1.", "due 3 /", "due 3 a", "Due 3 0", "dues 3 0", "due by", "due 3 \u0663",
    "by", "by ", "by  2", " by 2", "by 2 ", "by 2 2", "by -1", "by -1/2", "by -0", "by 2/4", "by 2/1", "by 0/3", "by 02",
    "by 1/02", "by 1/", "by /2", "by 1/0", "by x", "by 1.5", "by 1/2/3", "by 1/-2", "by +1", "by 1 /2", "by 2\n", "By 2",
    "by grain", "by 1e3", "by 1_0", "by \u0663", "by --1", "by -",
    "over", "over ", "over 3 0", "over 3 0 4", "over 3 0 4 0", "over 3 0 4 0 0 0", "over 3 0 4 0 0 ", "over  3 0 4 0 0",
    "over 3 0 4 0  0", " over 3 0 4 0 0", "over 3 10 4 0 0", "over 3 -1 4 0 0", "over 1/2 0 4 0 0", "over 3 00 4 0 0",
    "over 3 0 -4 0 0", "over 3 0 4 -1/2 0", "over 3 0 4/2 0 0", "over 3 0 4 0/2 0", "over 3 0 4 0 -1", "over 3 0 4 0 1/2",
    "over 3 0 4 0 00", "over 3 0 4 0 07", "over 3 0 4 0 x", "over 3 0 4 0 2/1", "over 3 0 4 0 -0", "over 3 0 4 0 +1",
    "over 3 0 x 0 0", "over 3 x 4 0 0", "overs 3 0 4 0 0", "over 3 0 4 0 0\n", "over 3 0 04 0 0", "over 3 0 4 0 1.5",
)

MANY = "(then (either rest rest) (then (either rest rest) (then (either rest rest) (either rest rest))))"


def many_lines(count):
    """A house of one jar and one deed that has so many lines more than 16."""
    body = "rest"
    for number in range(count - 1):
        body = f"(either {body} rest)"
    return f"jars x\ndeed a : {MANY}\ndeed b : {body}"


class TestAnswered(unittest.TestCase):
    def test_answers(self):
        for text, row, expected in ANSWERS:
            with self.subTest(text=text, row=row):
                self.assertEqual(answered(text, row), expected)
                self.assertIs(type(answered(text, row)), str)

    def test_many_houses(self):
        chance = random.Random(191)
        for house in [row[0] for row in HOUSES] + houses_of_lines(192):
            text = show_house(house)
            filled = [step[0] for step in filling(house)]
            names = [jar for number, jar in enumerate(house[0]) if number in filled]
            self.assertEqual(answered(text, "fills"), " ".join(names) or "none")
            counted = [f"{deed[0]} {len(come_to)}" for deed, come_to in zip(house[1], rows_come_to(house))]
            self.assertEqual(answered(text, "rows"), " ".join(counted))
            self.assertEqual(answered(text, "lines"), str(len(lines(house))))
            self.assert_due_and_by(chance, house, text)

    def assert_due_and_by(self, chance, house, text):
        mix = tuple(chance.randint(0, 9) for deed in house[1])
        told = dues_told(house, mix)
        expected = "boundless" if told[0] == "boundless" else show_fraction(told[1])
        self.assertEqual(answered(text, " ".join(["due"] + [str(number) for number in mix])), expected)
        jar_worths = random_worths(chance, house, chance.choice((1, 999, 10 ** 6)))
        by = paper_by(house, jar_worths)
        if by[0] == "round":
            expected = "round " + house[1][by[1][0]][0]
        else:
            expected = " ".join(show_fraction(deed[0]) for deed in by[1][1])
        self.assertEqual(answered(text, " ".join(["by"] + [show_fraction(one) for one in jar_worths])), expected)

    def over(self, text, mix, prices, over):
        numbers = [(number, 1) for number in mix] + list(prices) + [(over, 1)]
        return answered(text, " ".join(["over"] + [show_fraction(number) for number in numbers]))

    def assert_yes(self, text, mix, prices, over):
        answer = self.over(text, mix, prices, over)
        head, cost, paid = answer.split(" ")
        self.assertEqual(head, "yes")
        self.assertGreater(worth(read_fraction(cost)), worth(read_fraction(paid)) + over)
        self.assertEqual(self.over(text, mix, prices, over), answer)
        return worth(read_fraction(cost)), worth(read_fraction(paid))

    def assert_no(self, text, mix, prices, over):
        self.assertEqual(self.over(text, mix, prices, over), "no")

    def test_over(self):
        chance = random.Random(193)
        found = {"dues": 0, "boundless": 0}
        for house in houses_of_lines(194):
            text = show_house(house)
            mix = tuple(chance.choice((0, 1, 2, 9)) for deed in house[1])
            told = dues_told(house, mix)
            over = chance.choice((0, 1, 10 ** 6))
            if told[0] == "boundless":
                self.assert_yes(text, mix, ((10 ** 6, 1),) * len(mix), over)
                self.assert_yes(text, mix, ((0, 1),) * len(mix), over)
                found["boundless"] += 1
                continue
            dues = tuple(deed[0] for deed in told[2][1])
            self.assert_no(text, mix, dues, over)
            self.assert_no(text, mix, tuple(pair(worth(due) + 1) for due in dues), over)
            lowered = [d for d, number in enumerate(mix) if number > 0 and worth(dues[d]) > 0]
            for d in lowered:
                for little in (Fraction(1, 10 ** 20), worth(dues[d])):
                    less = dues[:d] + (pair(worth(dues[d]) - little),) + dues[d + 1:]
                    less = tuple(one if number else (10 ** 6, 1) for one, number in zip(less, mix))
                    self.assertLess(dot(worths(less), mix), worth(told[1]))
                    self.assert_yes(text, mix, less, over)
                    found["dues"] += 1
        self.assertGreater(min(found.values()), 30)

    def test_what_was_paid_is_for_a_story(self):
        """Of one deed that costs the same each time cost and pay are those of one number of doings."""
        for price, over in (((1, 3), 0), ((999, 1000), 7), ((0, 1), 10 ** 6), ((999999, 10 ** 6), 10 ** 6)):
            cost, paid = self.assert_yes("jars\ndeed a : (pay 1)", (1,), (price,), over)
            self.assertEqual(paid, cost * worth(price))
            self.assertEqual(cost.denominator, 1)

    def test_sums_are_not_bounded(self):
        self.assert_yes("jars\ndeed a : (pay 1)", (1,), ((1, 2),), 10 ** 5000)
        self.assert_no("jars\ndeed a : (pay 1)", (1,), ((1, 1),), 10 ** 50)


class TestRefused(unittest.TestCase):
    def assert_refused(self, text, asked, kind, **values):
        with self.assertRaises(DueError) as caught:
            answered(text, asked)
        self.assertIs(type(caught.exception), kind, (text, asked))
        self.assertEqual({name: getattr(caught.exception, name) for name in values}, values)

    def test_no_row(self):
        for row in NO_ROWS:
            self.assert_refused(MILL, row, NoRow)

    def test_no_row_of_other_houses(self):
        for row in ("by 1", "by ", "due 1", "due 1 2 3", "over 1 2 1 1", "over 1 2 1 1 1 1"):
            self.assert_refused(BARE, row, NoRow)
        for row in ("by", "by 1", "by 1 2 3"):
            self.assert_refused(DRY, row, NoRow)

    def test_any_text_is_refused_or_answered(self):
        chance = random.Random(195)
        good = [row for text, row, expected in ANSWERS if text == MILL]
        for time in range(1500):
            row = chance.choice(good)
            place = chance.randrange(len(row) + 1)
            row = row[:place] + chance.choice(("", " ", "0", "1", "/", "-", "x", "\n")) + row[place + chance.randint(0, 1):]
            words = row.split(" ")
            numbers = {"due": 2, "by": 1, "over": 5, "fills": 0, "rows": 0, "lines": 0}.get(words[0])
            right = numbers == len(words) - 1
            for number, word in enumerate(words[1:]):
                if words[0] == "due" or words[0] == "over" and number < 2:
                    right = right and word in list("0123456789")
                else:
                    right = right and self.is_fraction(word) and (number < 4 or "/" not in word)
            if right:
                self.assertIs(type(answered(MILL, row)), str)
            else:
                self.assert_refused(MILL, row, NoRow)

    def is_fraction(self, word):
        try:
            one = Fraction(word)
        except (ValueError, ZeroDivisionError):
            return False
        return str(one) == word and one >= 0

    def test_texts_that_are_none(self):
        for text, row in (("", 0), ("jars", 1), ("jars x\ndeed a : (put x 0)", 1), ("jars X\ndeed a : rest", 0),
                          (MILL + "\n", 3), (MILL.replace("6", "2/4"), 2)):
            for asked in ("fills", "due 1", "due 3 0", "no row", "", "over 3 0 4 0 0"):
                self.assert_refused(text, asked, BadText, row=row)

    def test_houses_that_are_not_let_by(self):
        for text, word, name in (
            ("jars x x\ndeed a : rest", "twice", "x"), ("jars x\ndeed a : rest\ndeed a : rest", "twice", "a"),
            ("jars x\ndeed a : (put y 1)", "unknown", "y"), ("jars x\ndeed a : (use b)", "use", "b"),
        ):
            for asked in ("fills", "rows", "lines", "due 1", "by 1", "over 1 0 0", "no row", ""):
                self.assert_refused(text, asked, NoHouse, word=word, name=name)

    def test_bad_text_ahead_of_no_house(self):
        self.assert_refused("jars x x\ndeed a : (put y 1)\ndeed a : (pay 2/4)", "fills", BadText, row=2)
        self.assert_refused("jars x x\ndeed a : rest\n" + MILL, "none", BadText, row=2)

    def test_too_many_lines(self):
        for count, many in ((8, False), (9, True), (10, True)):
            text = many_lines(count)
            self.assertEqual(answered(text, "lines"), str(16 + count))
            self.assertEqual(answered(text, "fills"), "none")
            self.assertEqual(answered(text, "rows"), f"a 5 b {count}")
            for row, expected in (("due 1 2", "0"), ("by 3", "0 0"), ("over 1 2 0 0 7", "no")):
                if many:
                    self.assert_refused(text, row, TooMany)
                else:
                    self.assertEqual(answered(text, row), expected)

    def test_far_too_many_lines(self):
        text = "jars\n" + "\n".join(f"deed {name} : {MANY}" for name in "abcdefg")
        self.assertEqual(answered(text, "lines"), str(16 * 7))
        self.assert_refused(text, "by", TooMany)
        self.assert_refused(text, "due 1 1 1 1 1 1 1", TooMany)

    def test_no_row_ahead_of_too_many_lines(self):
        text = many_lines(9)
        for row in ("due 1", "due 1 10", "due 1 2 3", "by", "by -1", "by 2/4", "by 1 1", "over 1 2 0 0", "over 1 2 0 0 1/2",
                    "over 1 2 0 -1 7", "over 10 2 0 0 7", "due 1 2 ", " due 1 2", "fills 1", "due  1 2", ""):
            self.assert_refused(text, row, NoRow)

    def test_lines_of_jars_that_are_not_fillable_do_not_count(self):
        body = MANY
        for jar in "xy":
            body = f"(take {jar} 1 {MANY} {body})"
        dry = f"jars x y\ndeed a : {body}"
        self.assertEqual(answered(dry, "lines"), "16")
        self.assertEqual(answered(dry, "due 5"), "0")
        wet = dry + "\ndeed b : (put x 1)"
        self.assertEqual(answered(wet, "lines"), "33")
        self.assert_refused(wet, "due 5 1", TooMany)

    def test_asked_again_the_same(self):
        for text, row, expected in ANSWERS:
            self.assertEqual(answered(text, row), answered(text, row))


if __name__ == "__main__":
    unittest.main()
