"""Promises 2, 3 and 19: the rows that are come to."""

import unittest

import samples
from dueworth.charts import chart
from dueworth.rows import rows_come_to
from fillings import HOUSES, MOST_HELD, many_houses
from walking import explored


class TestRows(unittest.TestCase):
    def test_told(self):
        for house, names, rows in HOUSES:
            with self.subTest(house=house):
                self.assertEqual(rows_come_to(house), rows)
                self.assertEqual(rows_come_to(house), rows)

    def assert_rows(self, house, rows):
        """A rising tuple for each deed, the end last."""
        self.assertIs(type(rows), tuple)
        self.assertEqual(len(rows), len(house[1]))
        for deed, told in zip(house[1], rows):
            self.assertIs(type(told), tuple)
            self.assertEqual(list(told), sorted(set(told)))
            self.assertEqual(told[-1], len(chart(deed[1])) - 1)
        self.assertLessEqual(samples.kinds_of(rows), {"tuple", "int"})

    def test_many_houses(self):
        left_out = 0
        for house in many_houses():
            rows = rows_come_to(house)
            self.assert_rows(house, rows)
            found = {(d, row) for d, told in enumerate(rows) for row in told}
            self.assertEqual(found, explored(house, MOST_HELD[len(house[0])])[1], house)
            left_out += sum(len(chart(deed[1])) for deed in house[1]) - len(found)
        self.assertGreater(left_out, 100)

    def test_houses_of_all_things(self):
        for house in samples.houses_let_by(200, 73):
            self.assert_rows(house, rows_come_to(house))

    def test_all_where_all_jars_are_fillable(self):
        for house in samples.houses_let_by(100, 74):
            for jar in house[0]:
                house = (house[0], house[1] + (("f" + jar, ("put", jar, 1)),))
            expected = tuple(tuple(range(len(chart(deed[1])))) for deed in house[1])
            self.assertEqual(rows_come_to(house), expected)

    def test_nothing_is_changed(self):
        before = repr(HOUSES)
        for house, names, rows in HOUSES:
            rows_come_to(house)
        self.assertEqual(repr(HOUSES), before)


if __name__ == "__main__":
    unittest.main()
