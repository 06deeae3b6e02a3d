"""Bodies and houses for the tests, the same ones each time."""

import random

HEADS = ("rest", "pay", "put", "then", "either", "take", "often", "use")
LEAVES = ("rest", "pay", "put", "use")
NAMES = ("a", "b", "zz", "oil", "sixsix")
COSTS = ((0, 1), (1, 1), (7, 2), (999, 1), (1, 9), (10 ** 80 + 1, 10))

REST = ("rest",)
PAY = ("pay", (3, 2))
PUT = ("put", "b", 4)
USE = ("use", "d")

# One body of each head, each side of it another one.
ONE_OF_EACH = (
    REST,
    PAY,
    PUT,
    ("then", PAY, PUT),
    ("either", PUT, USE),
    ("take", "a", 2, PAY, USE),
    ("often", PUT),
    USE,
)


def random_body(chance, deep):
    """A body of at most so many parts one within another."""
    head = chance.choice(HEADS if deep > 1 else LEAVES)
    if head == "rest":
        return ("rest",)
    if head == "pay":
        return ("pay", chance.choice(COSTS))
    if head == "put":
        return ("put", chance.choice(NAMES), chance.randint(1, 9))
    if head == "use":
        return ("use", chance.choice(NAMES))
    if head == "often":
        return ("often", random_body(chance, deep - 1))
    words = (head,)
    if head == "take":
        words = ("take", chance.choice(NAMES), chance.randint(1, 9))
    return words + (random_body(chance, deep - 1), random_body(chance, deep - 1))


def random_bodies(count, deep, seed):
    chance = random.Random(seed)
    return [random_body(chance, deep) for number in range(count)]


def random_houses(count, seed):
    chance = random.Random(seed)
    houses = []
    for number in range(count):
        jars = tuple(chance.choice(NAMES) for jar in range(chance.randint(0, 6)))
        deeds = tuple((chance.choice(NAMES), random_body(chance, 4)) for deed in range(chance.randint(1, 6)))
        houses.append((jars, deeds))
    return houses


def kinds_of(thing):
    """The kinds that a thing is built of, told by their names."""
    if type(thing) in (tuple, list):
        return {type(thing).__name__}.union(*[kinds_of(one) for one in thing])
    return {type(thing).__name__}
