"""Promises 2, 10, 11 and 12: traces, and what they lead to."""

import random
import unittest

import samples
import walking
from dueworth.charts import chart
from dueworth.traces import is_trace, led_to, oftens, plain_trace
from samples import PAY, PUT, REST, USE

EITHER = ("either", PAY, PUT)
TAKE = ("take", "a", 2, PAY, USE)
OFTEN = ("often", PUT)

# A body, traces of it, and things that are none.
LOOKED_AT = (
    (REST, ((),), (((),), (0,), (1,), (0, ()), (1, ()), ((), ()))),
    (PAY, ((),), (((),), (0,), (1, ()), ((1, ()),))),
    (PUT, ((),), (((),), (4,), (0, ()))),
    (USE, ((),), (((),), (1,), ((), ()))),
    (("then", PAY, PUT), (((), ()),), ((), ((),), ((), (), ()), (0, ()), ((), 0), (((),), ()), ((), ((),)), (0, 0))),
    (EITHER, ((0, ()), (1, ())), ((), (0,), (1,), (2, ()), (-1, ()), (0, (), ()), (0, 0), (1, ((),)), ((), 0),
                                  ((), ()), ((0, ()),), ((0,), ()), (0, 1))),
    (TAKE, ((0, ()), (1, ())), ((), (0,), (2, ()), (-1, ()), (-2, ()), (1, 0), (1, (), 1), ((), 1), ((1, ()),))),
    (OFTEN, ((), ((1, ()),), ((2, ()),), ((10 ** 6, ()),), ((1, ()), (1, ())), ((3, ()), (1, ()), (10 ** 12, ()))),
     ((0, ()), (1, ()), ((),), (1,), ((0, ()),), ((-1, ()),), ((1,),), ((1, (), ()),), ((1, 0),), ((1, ((),)),),
      (((), 1),), ((1, ()), ()), ((1, ()), (0, ())), ((0, ()), (1, ())), ((1, ()), 1), (((1, ()),),))),
    # Within one another.
    (("then", OFTEN, EITHER), (((), (0, ())), (((2, ()),), (1, ()))), (((0, ()), ()), ((0, ()), (0, ())), ((), ()))),
    (("either", ("then", REST, REST), OFTEN), ((0, ((), ())), (1, ()), (1, ((5, ()),))),
     ((0, ()), (1, ((), ())), (0, ((5, ()),)))),
    (("take", "a", 1, OFTEN, ("either", REST, OFTEN)),
     ((0, ()), (0, ((1, ()),)), (1, (0, ())), (1, (1, ())), (1, (1, ((1, ()),)))),
     ((1, ()), (0, (0, ())), (1, (0, ((1, ()),))), (1, (2, ())))),
    (("often", TAKE), ((), ((1, (0, ())),), ((1, (1, ())), (7, (0, ())))), (((1, ()),), ((0, (0, ())),), (1, (0, ())))),
    (("often", OFTEN), ((), ((1, ()),), ((1, ((1, ()),)),), ((2, ((3, ()), (4, ()))), (5, ()))),
     (((1, (1, ())),), ((1, ((0, ()),)),), ((1, ((1, ()), ())),))),
    (("often", ("then", PAY, OFTEN)), ((), ((4, ((), ())),), ((4, ((), ((9, ()),))),)), (((4, ()),), ((4, ((9, ()),)),))),
)

PLAIN = {
    REST: (),
    PAY: (),
    PUT: (),
    USE: (),
    OFTEN: (),
    EITHER: (0, ()),
    TAKE: (1, ()),
    ("then", EITHER, TAKE): ((0, ()), (1, ())),
    ("either", TAKE, OFTEN): (0, (1, ())),
    ("either", OFTEN, TAKE): (0, ()),
    ("either", EITHER, REST): (0, (0, ())),
    ("take", "a", 1, TAKE, EITHER): (1, (0, ())),
    ("take", "a", 1, EITHER, TAKE): (1, (1, ())),
    ("take", "a", 1, EITHER, OFTEN): (1, ()),
    ("often", EITHER): (),
    ("often", ("then", TAKE, OFTEN)): (),
    ("then", ("then", OFTEN, EITHER), ("take", "a", 1, REST, ("then", EITHER, OFTEN))): (
        ((), (0, ())), (1, ((0, ()), ()))),
}

GOINGS = ((), ((1, ()),), ((10 ** 6, ()),), ((2, ()), (1, ()), (3, ())))

# A body whose often of the number is of PUT, and the trace that leads to it gone by goings g.
LED = (
    (OFTEN, 0, lambda g: g),
    (("then", OFTEN, EITHER), 0, lambda g: (g, (0, ()))),
    (("then", TAKE, OFTEN), 0, lambda g: ((1, ()), g)),
    (("then", OFTEN, OFTEN), 0, lambda g: (g, ())),
    (("then", OFTEN, OFTEN), 1, lambda g: ((), g)),
    (("either", OFTEN, OFTEN), 0, lambda g: (0, g)),
    (("either", OFTEN, OFTEN), 1, lambda g: (1, g)),
    (("either", ("often", PAY), OFTEN), 1, lambda g: (1, g)),
    (("take", "a", 1, OFTEN, OFTEN), 0, lambda g: (0, g)),
    (("take", "a", 1, OFTEN, OFTEN), 1, lambda g: (1, g)),
    (("take", "a", 1, EITHER, OFTEN), 0, lambda g: (1, g)),
    (("often", OFTEN), 1, lambda g: ((1, g),)),
    (("often", ("often", OFTEN)), 2, lambda g: ((1, ((1, g),)),)),
    (("often", ("then", OFTEN, TAKE)), 1, lambda g: ((1, (g, (1, ()))),)),
    (("often", ("either", TAKE, ("then", EITHER, OFTEN))), 1, lambda g: ((1, (1, ((0, ()), g))),)),
    (("then", ("often", ("take", "a", 1, OFTEN, REST)), ("either", OFTEN, REST)), 1,
     lambda g: (((1, (0, g)),), (0, ()))),
    (("then", ("often", ("take", "a", 1, OFTEN, REST)), ("either", REST, OFTEN)), 2, lambda g: ((), (1, g))),
    (("then", ("often", ("take", "a", 1, REST, OFTEN)), ("either", OFTEN, REST)), 2, lambda g: ((), (0, g))),
)


def with_plain(chance, deep):
    """A body, its plain trace and how many oftens it has, built together."""
    head = chance.choice(("rest", "put", "then", "either", "take", "often") if deep > 1 else ("rest", "pay", "use"))
    if head == "often":
        inner = with_plain(chance, deep - 1)
        return (("often", inner[0]), (), inner[2] + 1)
    if head in ("then", "either", "take"):
        one = with_plain(chance, deep - 1)
        other = with_plain(chance, deep - 1)
        plain = {"then": (one[1], other[1]), "either": (0, one[1]), "take": (1, other[1])}[head]
        words = ("take", "a", 3) if head == "take" else (head,)
        return (words + (one[0], other[0]), plain, one[2] + other[2])
    return ({"rest": REST, "put": PUT, "pay": PAY, "use": USE}[head], (), 0)


def led_within(chance, goings):
    """A body around an often of PUT, the often's number, and the trace that leads to it, built together."""
    body, number, trace = OFTEN, 0, goings
    for layer in range(chance.randint(0, 5)):
        head = chance.choice(("then", "either", "take", "often"))
        if head == "often":
            body, number, trace = ("often", body), number + 1, ((1, trace),)
            continue
        words = ("take", "a", 3) if head == "take" else (head,)
        other = with_plain(chance, 3)
        if chance.randint(0, 1):
            body = words + (body, other[0])
            trace = (trace, other[1]) if head == "then" else (0, trace)
        else:
            body = words + (other[0], body)
            number += other[2]
            trace = (other[1], trace) if head == "then" else (1, trace)
    return body, number, trace


class TestIsTrace(unittest.TestCase):
    def test_looked_at(self):
        for body, good, bad in LOOKED_AT:
            for trace in good:
                with self.subTest(body=body, trace=trace):
                    self.assertIs(is_trace(body, trace), True)
            for trace in bad:
                with self.subTest(body=body, trace=trace):
                    self.assertIs(is_trace(body, trace), False)

    def test_each_head_within_each(self):
        chance = random.Random(11)
        for one in samples.ONE_OF_EACH:
            for other in samples.ONE_OF_EACH:
                for body in (("then", one, other), ("either", one, other), ("take", "k", 3, one, other),
                             ("often", ("then", one, other))):
                    for time in range(5):
                        self.assertIs(is_trace(body, samples.random_trace(chance, body)), True)

    def test_one_thing_put_otherwise(self):
        chance = random.Random(12)
        bodies = [row[0] for row in LOOKED_AT] + samples.random_bodies(120, 5, 13)
        told = {True: 0, False: 0}
        for body in bodies:
            pattern = walking.trace_pattern(body)
            for near in samples.near_things(samples.random_trace(chance, body)):
                if isinstance(near, tuple):
                    self.assertIs(is_trace(body, near), walking.matches(pattern, near), (body, near))
                    told[is_trace(body, near)] += 1
        self.assertGreater(min(told.values()), 500)

    def test_traces_of_other_bodies(self):
        chance = random.Random(14)
        bodies = [row[0] for row in LOOKED_AT] + samples.random_bodies(40, 4, 15)
        traces = [samples.random_trace(chance, body) for body in bodies]
        for body in bodies:
            pattern = walking.trace_pattern(body)
            for trace in traces:
                self.assertIs(is_trace(body, trace), walking.matches(pattern, trace), (body, trace))

    def test_truths_are_no_numbers(self):
        self.assertIs(is_trace(EITHER, (False, ())), False)
        self.assertIs(is_trace(TAKE, (True, ())), False)
        self.assertIs(is_trace(OFTEN, ((True, ()),)), False)

    def test_many_goings(self):
        goings = tuple((number, ()) for number in range(1, 2001))
        self.assertIs(is_trace(OFTEN, goings), True)
        self.assertIs(is_trace(OFTEN, goings + ((0, ()),)), False)
        self.assertIs(is_trace(("then", OFTEN, OFTEN), (goings, goings)), True)

    def test_deep_bodies(self):
        body, trace = PUT, ()
        for count in range(60):
            body, trace = ("then", ("often", body), EITHER), (((2, trace),), (1, ()))
        self.assertIs(is_trace(body, trace), True)
        self.assertIs(is_trace(("often", body), trace), False)
        self.assertEqual(oftens(body), 60)
        self.assertEqual(plain_trace(body), ((), (0, ())))
        self.assertIs(is_trace(body, led_to(body, 59, ((3, ()),))), True)

    def test_nothing_is_changed_and_asked_again_it_is_told_again(self):
        before = repr(LOOKED_AT)
        for body, good, bad in LOOKED_AT:
            for trace in good + bad:
                self.assertIs(is_trace(body, trace), is_trace(body, trace))
        self.assertEqual(repr(LOOKED_AT), before)


class TestPlainAndLed(unittest.TestCase):
    def test_plain(self):
        for body, trace in PLAIN.items():
            self.assertEqual(plain_trace(body), trace)
            self.assertEqual(plain_trace(body), trace)
            self.assertIs(is_trace(body, trace), True)

    def test_plain_of_many_bodies(self):
        chance = random.Random(16)
        for time in range(400):
            body, trace, count = with_plain(chance, 6)
            self.assertEqual(plain_trace(body), trace)
            self.assertEqual(oftens(body), count)
            self.assertIs(is_trace(body, trace), True)

    def test_how_many_oftens(self):
        for body, count in ((REST, 0), (USE, 0), (EITHER, 0), (OFTEN, 1), (("often", OFTEN), 2),
                            (("then", OFTEN, ("often", OFTEN)), 3), (("either", OFTEN, REST), 1),
                            (("take", "a", 1, OFTEN, ("often", ("then", OFTEN, OFTEN))), 4)):
            self.assertEqual(oftens(body), count)
            self.assertIs(type(oftens(body)), int)

    def test_led(self):
        for body, number, trace in LED:
            for goings in GOINGS:
                with self.subTest(body=body, number=number, goings=goings):
                    self.assertEqual(led_to(body, number, goings), trace(goings))
                    self.assertEqual(led_to(body, number, goings), trace(goings))
                    self.assertIs(is_trace(body, trace(goings)), True)

    def test_led_in_many_bodies(self):
        chance = random.Random(17)
        for time in range(600):
            goings = chance.choice(GOINGS)
            body, number, trace = led_within(chance, goings)
            self.assertIs(is_trace(body, trace), True)
            self.assertEqual(led_to(body, number, goings), trace)

    def test_led_by_goings_with_choices(self):
        body = ("then", EITHER, ("often", ("then", TAKE, OFTEN)))
        goings = ((3, ((0, ()), ((2, ()),))), (10 ** 6, ((1, ()), ())))
        self.assertEqual(led_to(body, 0, goings), ((0, ()), goings))
        self.assertEqual(led_to(body, 0, ()), ((0, ()), ()))
        self.assertEqual(led_to(body, 1, ((7, ()),)), ((0, ()), ((1, ((1, ()), ((7, ()),))),)))
        self.assertIs(is_trace(body, led_to(body, 0, goings)), True)

    def test_nothing_is_changed(self):
        body = ("often", ("then", TAKE, OFTEN))
        goings = ((2, ()), (3, ()))
        before = repr((body, goings))
        led_to(body, 1, goings)
        plain_trace(body)
        oftens(body)
        self.assertEqual(repr((body, goings)), before)


class TestAlongTheChart(unittest.TestCase):
    """A chart gone from row 0 by a trace's choices."""

    def rows_met(self, body, trace):
        """The numbers of the rows that one comes to, each of the words that the trace comes to."""
        rows = chart(body)
        row = 0
        met = []
        chosen = walking.choices(body, trace)
        for part in parts_met(body, trace):
            words = tuple(thing for thing in part if thing not in samples.sides_of(part))
            self.assertEqual(rows[row][:len(words)], words)
            met.append(row)
            if part[0] in ("pay", "put", "use"):
                self.assertEqual(len(rows[row]), len(words) + 1)
                row = rows[row][-1]
            else:
                self.assertEqual(len(rows[row]), len(words) + 2)
                row = rows[row][-2 + next(chosen)]
        self.assertEqual(rows[row], ("end",))
        self.assertEqual(list(chosen), [])
        return met

    def test_rows_are_those_that_the_trace_tells_of(self):
        chance = random.Random(18)
        for body in [row[0] for row in LOOKED_AT] + samples.random_bodies(150, 5, 19):
            for time in range(3):
                self.rows_met(body, samples.random_trace(chance, body, 2))
            self.rows_met(body, plain_trace(body))

    def test_led_to_an_often_one_comes_to_its_row(self):
        chance = random.Random(20)
        for body in [row[0] for row in LED] + samples.random_bodies(150, 5, 21):
            rows = [number for number, row in enumerate(chart(body)) if row[0] == "often"]
            self.assertEqual(oftens(body), len(rows))
            for number, row in enumerate(rows):
                inner = samples.oftens_in(body)[number][1]
                for goings in ((), ((1, plain_trace(inner)),),
                               ((2, samples.random_trace(chance, inner)), (1, plain_trace(inner)))):
                    trace = led_to(body, number, goings)
                    self.assertIs(is_trace(body, trace), True)
                    times = self.rows_met(body, trace).count(row)
                    self.assertEqual(times, 1 + sum(going[0] for going in goings))


def parts_met(body, trace):
    """The parts with rows that a trace comes to, in order, an often ahead of each time and once more."""
    if body[0] == "then":
        yield from parts_met(body[1], trace[0])
        yield from parts_met(body[2], trace[1])
    elif body[0] != "rest":
        yield body
    if body[0] in ("either", "take"):
        yield from parts_met(body[-2 + trace[0]], trace[1])
    if body[0] == "often":
        for many, inner in trace:
            for time in range(many):
                yield from parts_met(body[1], inner)
                yield body


if __name__ == "__main__":
    unittest.main()
