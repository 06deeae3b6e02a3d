"""Houses for the tests of what can be come to.

Of each its text, the fillable jars' names, and for each deed the rows that are come to.
"""

import samples
from dueworth.lines import line_count
from dueworth.reader import read_house

TEXTS = (
    ("jars\ndeed a : (pay 1)", "", ((0, 1),)),
    ("jars\ndeed a : rest\ndeed b : (often (either (pay 1) rest))", "", ((0,), (0, 1, 2, 3))),
    ("jars x\ndeed a : rest", "", ((0,),)),
    ("jars x y\ndeed a : (put y 3)", "y", ((0, 1),)),
    ("jars x\ndeed a : (then (put x 1) (put x 2))", "x", ((0, 1, 2),)),
    ("jars x y\ndeed a : (put x 1)\ndeed b : (put x 2)\ndeed c : (put y 9)", "x y", ((0, 1), (0, 1), (0, 1))),
    # Filled only behind a take of another one, in another deed and in the same.
    ("jars x y\ndeed a : (take x 1 (put y 1) rest)\ndeed b : (put x 1)", "x y", ((0, 1, 2), (0, 1))),
    ("jars y x\ndeed a : (take x 9 (put y 1) (put x 1))", "x y", ((0, 1, 2, 3),)),
    ("jars y x\ndeed a : (then (put x 2) (take x 1 (put y 1) (pay 1)))", "x y", ((0, 1, 2, 3, 4),)),
    ("jars y x\ndeed a : (then (take x 1 (put y 1) (pay 1)) (put x 2))", "x y", ((0, 1, 2, 3, 4),)),
    # Chains, as they stand and against it.
    ("jars w x y z\ndeed a : (take x 2 (put w 1) rest)\ndeed b : (take y 3 (put x 1) rest)\n"
     "deed c : (take z 4 (put y 1) rest)\ndeed d : (put z 1)", "w x y z", ((0, 1, 2), (0, 1, 2), (0, 1, 2), (0, 1))),
    ("jars w x y z\ndeed d : (put w 1)\ndeed c : (take w 4 (put x 1) rest)\ndeed b : (take x 3 (put y 1) rest)\n"
     "deed a : (take y 2 (put z 1) rest)", "w x y z", ((0, 1), (0, 1, 2), (0, 1, 2), (0, 1, 2))),
    ("jars w x y z\ndeed a : (take w 1 (take x 1 (take y 9 (put z 1) (put y 1)) (put x 1)) (put w 1))", "w x y z",
     ((0, 1, 2, 3, 4, 5, 6, 7),)),
    # Rings: begun by nothing, and begun at one place.
    ("jars x y\ndeed a : (take x 1 (put y 9) rest)\ndeed b : (take y 1 (put x 9) rest)", "", ((0, 2), (0, 2))),
    ("jars x y z\ndeed a : (take x 1 (put y 9) (pay 1))\ndeed b : (take y 1 (put z 9) rest)\n"
     "deed c : (take z 1 (put x 9) rest)", "", ((0, 2, 3), (0, 2), (0, 2))),
    ("jars x y z\ndeed a : (take x 1 (put y 9) rest)\ndeed b : (take y 1 (put z 9) (put y 1))\n"
     "deed c : (take z 1 (put x 9) rest)", "x y z", ((0, 1, 2), (0, 1, 2, 3), (0, 1, 2))),
    # Only behind an often, or on the other side.
    ("jars x y\ndeed a : (often (put x 1))\ndeed b : (often (often (take x 5 (put y 1) rest)))", "x y",
     ((0, 1, 2), (0, 1, 2, 3, 4))),
    ("jars x y\ndeed a : (take x 1 (pay 1) (put y 1))", "y", ((0, 2, 3),)),
    ("jars x y\ndeed a : (take x 1 (put x 1) (take y 1 (put y 1) (either (pay 1) (often (put x 1)))))", "x",
     ((0, 1, 2, 4, 5, 6, 7, 8),)),
    ("jars x\ndeed a : (either (pay 1) (either (pay 2) (then rest (put x 1))))", "x", ((0, 1, 2, 3, 4, 5),)),
    # On the taken side of a take of the very same jar.
    ("jars x\ndeed a : (take x 1 (put x 2) rest)", "", ((0, 2),)),
    ("jars x\ndeed a : (take x 1 (put x 2) (put x 1))", "x", ((0, 1, 2, 3),)),
    ("jars x\ndeed a : (either (take x 1 (put x 2) rest) (put x 1))", "x", ((0, 1, 2, 3, 4),)),
    ("jars x y\ndeed a : (take x 1 (then (put x 1) (put y 1)) rest)", "", ((0, 3),)),
    ("jars x y\ndeed a : (put y 1)\ndeed b : (take y 1 (take x 1 (put x 9) rest) rest)", "y", ((0, 1), (0, 1, 3))),
    # Taken sides left out however far without; what is behind and on the other side is not.
    ("jars x y\ndeed a : (then (take x 1 (then (pay 1) (take y 1 (pay 2) (often (pay 3)))) (pay 4)) (pay 5))\n"
     "deed b : (put y 1)", "y", ((0, 6, 7, 8), (0, 1))),
    ("jars x y\ndeed a : (take y 1 (take x 1 (often (pay 1)) (often (pay 2))) (often (take x 1 (pay 3) (pay 4))))\n"
     "deed b : (put y 1)", "y", ((0, 1, 4, 5, 6, 7, 9, 10), (0, 1))),
    ("jars x\ndeed a : (take x 1 rest rest)\ndeed b : (take x 1 (either rest rest) rest)", "", ((0, 1), (0, 2))),
    ("jars x\ndeed a : (then (take x 1 (pay 1) rest) (take x 1 (pay 2) (take x 2 (pay 3) (pay 4))))", "",
     ((0, 2, 4, 6, 7),)),
)

HOUSES = tuple((read_house(text), tuple(names.split()), rows) for text, names, rows in TEXTS)


def many_houses():
    """Houses of few things, so that all their ways can be gone."""
    return samples.houses_let_by(250, 71, things=2, deep=4)


def houses_of_lines(seed):
    """Houses of at most 24 lines."""
    few = [house for house in [row[0] for row in HOUSES] + many_houses()[:60] if line_count(house) <= 24]
    return few + samples.rich_houses(150, seed)


# How many things a jar is told to hold at the most where all ways are gone, by how many jars there are.
MOST_HELD = (1, 12, 12, 8, 5)
