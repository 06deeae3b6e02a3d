"""Promise 3: from a text to dues, papers and stories."""

import random
import unittest
from fractions import Fraction

import samples
from dueworth.dues import dues_told
from dueworth.lines import lines
from dueworth.looks import look
from dueworth.overruns import overrun
from dueworth.papers import paper_holds
from dueworth.reader import read_house
from dueworth.shares import shown_by
from dueworth.stories import is_story, story_tally
from dueworth.writer import show_house
from fillings import houses_of_lines
from ledgers import doings_from_empty
from samples import pair
from sums import dot, wholes, worth, worths
from walking import taken_apart


class TestTheWhole(unittest.TestCase):
    def assert_never_more(self, chance, house, paper):
        """At no moment of some stories from empty jars are costs more than the dues of the deeds begun.

        Told is the cost of the dearest one.
        """
        dues = [worth(deed[0]) for deed in paper[1]]
        highest = Fraction(0)
        for time in range(3):
            paid = spent = Fraction(0)
            for d, trace, jars, rows in doings_from_empty(chance, house, 15):
                paid += dues[d]
                for row, held, cost in rows:
                    self.assertLessEqual(spent + worth(cost), paid)
                spent += worth(rows[-1][2])
            highest = max(highest, spent)
        return highest

    def assert_exceeds(self, house, shares, prices, over):
        story = overrun(house, shares, prices, over)
        self.assertIs(is_story(house, story), True)
        cost, counts, effect, demand = story_tally(house, story)
        self.assertEqual(set(demand) - {0}, set())
        self.assertGreater(worth(cost), dot(counts, worths(prices)) + over)

    def assert_least(self, chance, house, mix, told):
        """No prices of less than the sum do, whichever deed is paid less for."""
        total, dues = worth(told[1]), [worth(deed[0]) for deed in told[2][1]]
        for d, number in enumerate(mix):
            if number > 0 and dues[d] > 0:
                less = [due - (Fraction(1, 2520) if place == d else 0) for place, due in enumerate(dues)]
                less = [max(due, Fraction(0)) for due in less]
                self.assertLess(dot(less, mix), total)
                self.assert_exceeds(house, told[3], tuple(pair(due) for due in less), chance.choice((0, 10 ** 6)))

    def test_from_a_text_to_dues_and_stories(self):
        chance = random.Random(201)
        found = {"dues": 0, "boundless": 0}
        dear = 0
        for house in houses_of_lines(202):
            house = read_house(show_house(house))
            self.assertIs(look(house), True)
            mix = tuple(chance.choice((0, 1, 3, 9)) for deed in house[1])
            told = dues_told(house, mix)
            found[told[0]] += 1
            if told[0] == "boundless":
                self.assert_exceeds(house, told[1], ((10 ** 6, 1),) * len(mix), 10 ** 6)
            else:
                self.assertIs(paper_holds(house, told[2]), True)
                dear += self.assert_never_more(chance, house, told[2]) > 0
                self.assert_least(chance, house, mix, told)
        self.assertGreater(min(found.values()), 30)
        self.assertGreater(dear, 50)

    def test_any_story_is_taken_apart_into_passes_and_rounds(self):
        chance = random.Random(203)
        gone = dear = 0
        for house in houses_of_lines(204) + samples.rich_houses(100, 205, things=2):
            places = {(line[0], line[1], line[4]): place for place, line in enumerate(lines(house))}
            shares = [0] * len(places)
            counts = [0] * len(house[1])
            cost = Fraction(0)
            for d, trace, jars, rows in doings_from_empty(chance, house, 20):
                one, goings = taken_apart(house[1][d][1], trace)
                for number, many, inner in [(None, 1, one)] + goings:
                    shares[places[d, number, inner]] += many
                counts[d] += 1
                cost += worth(rows[-1][2])
                gone += len(goings)
            self.assertEqual(shown_by(house, wholes(shares)), (wholes(counts), pair(cost)))
            dear += cost > 0
        self.assertGreater(gone, 2000)
        self.assertGreater(dear, 100)


if __name__ == "__main__":
    unittest.main()
