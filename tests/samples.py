"""Bodies and houses for the tests, the same ones each time."""

import random
from fractions import Fraction

from dueworth.lines import line_count

HEADS = ("rest", "pay", "put", "then", "either", "take", "often", "use")
LEAVES = ("rest", "pay", "put", "use")
NAMES = ("a", "b", "zz", "oil", "sixsix")
COSTS = ((0, 1), (1, 1), (7, 2), (999, 1), (1, 9), (10 ** 80 + 1, 10))

SMALL_COSTS = ((0, 1), (1, 1), (7, 2), (999, 1), (1, 9), (5, 6))

REST = ("rest",)
PAY = ("pay", (3, 2))
PUT = ("put", "b", 4)
USE = ("use", "d")

# One body of each head, each side of it another one.
ONE_OF_EACH = (
    REST,
    PAY,
    PUT,
    ("then", PAY, PUT),
    ("either", PUT, USE),
    ("take", "a", 2, PAY, USE),
    ("often", PUT),
    USE,
)


def random_body(chance, deep, heads=HEADS, names=NAMES, things=9, costs=COSTS):
    """A body of at most so many parts one within another."""
    head = chance.choice([head for head in heads if deep > 1 or head in LEAVES])
    if head == "rest":
        return ("rest",)
    if head == "pay":
        return ("pay", chance.choice(costs))
    if head == "put":
        return ("put", chance.choice(names), chance.randint(1, things))
    if head == "use":
        return ("use", chance.choice(names))
    words = (head,)
    if head == "take":
        words = ("take", chance.choice(names), chance.randint(1, things))
    sides = 1 if head == "often" else 2
    return words + tuple(random_body(chance, deep - 1, heads, names, things, costs) for side in range(sides))


def random_bodies(count, deep, seed):
    chance = random.Random(seed)
    return [random_body(chance, deep) for number in range(count)]


def random_houses(count, seed):
    chance = random.Random(seed)
    houses = []
    for number in range(count):
        jars = tuple(chance.choice(NAMES) for jar in range(chance.randint(0, 6)))
        deeds = tuple((chance.choice(NAMES), random_body(chance, 4)) for deed in range(chance.randint(1, 6)))
        houses.append((jars, deeds))
    return houses


def house_let_by(chance, things=9, deep=6, most_parts=20):
    """A house that is let by, within the bounds."""
    jars = ("a", "b", "zz", "oil")[:chance.choice((0, 1, 2, 2, 3, 3, 4))]
    heads = ("rest", "pay", "then", "then", "either", "often")
    if jars:
        heads += ("put", "put", "take", "take")
    deeds = []
    for name in ("oil", "make", "b", "mend")[:chance.randint(1, 4)]:
        body = random_body(chance, deep, heads, jars, things, SMALL_COSTS)
        while parts_of(body) > most_parts:
            body = random_body(chance, deep, heads, jars, things, SMALL_COSTS)
        deeds.append((name, body))
    return (jars, tuple(deeds))


def houses_let_by(count, seed, things=9, deep=6):
    chance = random.Random(seed)
    return [house_let_by(chance, things, deep) for number in range(count)]


def guarded(chance, body, jars, things):
    """A body like this one, but what an often goes takes things, so that it needn't gain each time."""
    if body[0] == "often":
        inner = guarded(chance, body[1], jars, things)
        return ("often", ("take", chance.choice(jars), chance.randint(1, things), inner, REST))
    sides = sides_of(body)
    return body[:len(body) - len(sides)] + tuple(guarded(chance, side, jars, things) for side in sides)


def rich_houses(count, seed, things=9):
    """Houses of many parts and at most 24 lines, some of whose rounds take as much as they bring."""
    chance = random.Random(seed)
    houses = []
    while len(houses) < count:
        jars, deeds = house_let_by(chance, things)
        if jars:
            deeds = tuple((name, guarded(chance, body, jars, things)) for name, body in deeds)
        most = max(parts_of(body) for name, body in deeds)
        if 6 <= most <= 24 and 4 <= line_count((jars, deeds)) <= 24:
            houses.append((jars, deeds))
    return houses


def random_fraction(chance, most=10 ** 6, bottom=2520):
    """A fraction from nought on, often a small one."""
    part = chance.choice((1, 1, 2, 3, 9, chance.randint(1, bottom)))
    return pair(Fraction(chance.randint(0, chance.choice((1, 9, 999, most)) * part), part))


def sides_of(body):
    """The bodies right within a body."""
    return [thing for thing in body[1:] if isinstance(thing, tuple) and isinstance(thing[0], str)]


def parts_of(body):
    """How many parts a body has."""
    return 1 + sum(parts_of(side) for side in sides_of(body))


def oftens_in(body):
    """The oftens of a body, as they stand."""
    found = [body] if body[0] == "often" else []
    for side in sides_of(body):
        found.extend(oftens_in(side))
    return found


def random_trace(chance, body, most=3, names=None):
    """A trace of a body, each often gone by at most 3 goings of at most so many times.

    Where names are told it takes only of jars of these names.
    """
    if body[0] == "then":
        return tuple(random_trace(chance, side, most, names) for side in body[1:])
    if body[0] in ("either", "take"):
        side = chance.randint(0, 1)
        if body[0] == "take" and names is not None and body[1] not in names:
            side = 1
        return (side, random_trace(chance, body[-2 + side], most, names))
    if body[0] == "often":
        goings = range(chance.randint(0, 3))
        return tuple((chance.randint(1, most), random_trace(chance, body[1], most, names)) for going in goings)
    return ()


def random_story(chance, house, deep=3, most=3):
    """A story of a house, its agains at most so many within one another."""
    story = []
    for part in range(chance.randint(1 if deep < 3 else 0, 3)):
        if deep > 1 and chance.randint(0, 2) == 0:
            story.append(("again", chance.randint(1, most), random_story(chance, house, deep - 1, most)))
        else:
            d = chance.randrange(len(house[1]))
            story.append(("do", d, random_trace(chance, house[1][d][1], most)))
    return tuple(story)


def story_parts(story):
    """How many `do` and `again` there are in a story."""
    return sum(1 + (story_parts(part[2]) if part[0] == "again" else 0) for part in story)


def near_things(thing):
    """All things built like this one with one thing put otherwise, at any place."""
    if isinstance(thing, str):
        yield from ("", "do", "again", thing + "s", thing[1:], 0, 1, (), (thing,))
    elif isinstance(thing, int):
        yield from (thing + 1, thing - 1, 0, 1, -1, -thing, 10 ** 6, (), (thing,), (0, ()))
    else:
        yield from ((), thing[:-1], thing[1:], thing[::-1], thing + thing, (thing,), 0, 1, -1)
        for more in ((), 0, 1, (1, ()), (0, ())):
            yield thing + (more,)
            yield (more,) + thing
        for place, inner in enumerate(thing):
            for near in near_things(inner):
                yield thing[:place] + (near,) + thing[place + 1:]


def pair(cost):
    return (cost.numerator, cost.denominator)


def kinds_of(thing):
    """The kinds that a thing is built of, told by their names."""
    if type(thing) in (tuple, list):
        return {type(thing).__name__}.union(*[kinds_of(one) for one in thing])
    return {type(thing).__name__}
