"""The package keeps to the rules of LANGUAGE.md, and the checker tells where one is broken."""

import unittest
from pathlib import Path

from language import faults

PACKAGE = Path(__file__).resolve().parent.parent / "dueworth"

GOOD = '''"""A file."""

from dueworth.other import Wrong, doubled

ROWS = {"one": (1, 2), "two": (3,)}


class Kept:
    """What is kept."""

    def __init__(self, start):
        self.start = start

    def moved(self, by):
        self.start += by
        return self.start


def read(text, least=0):
    """A number."""
    try:
        number = int(text)
    except ValueError as e:
        raise Wrong(text) from e
    names = sorted(set([row for row in ROWS if row in ("one", "two")]))
    for place, name in enumerate(names):
        number = max(number, doubled(place), len(ROWS.get(name, ())), least)
    if isinstance(text, str) and number is not None:
        return f"{number}" + ", ".join(reversed(names)) + str(10 ** 60)
    return Kept(number).moved(1)
'''
OTHER = '''class Wrong(ValueError):
    def __init__(self, row):
        self.row = row


def doubled(number):
    return number * 2
'''

# A rule, and text that breaks it.
BROKEN = (
    ("L2", "import math\n"),
    ("L2", "from math import gcd\n"),
    ("L2", "from .other import doubled\n"),
    ("L2", "from dueworth.other import *\n"),
    ("L2", "from dueworth.other import doubled as twofold\n"),
    ("L2", "def f():\n    from dueworth.other import doubled\n    return doubled(1)\n"),
    ("L2", "X = 1\nfrom dueworth.other import doubled\n"),
    ("L3", "X = 1 + 1\n"),
    ("L3", "X = len('a')\n"),
    ("L3", "print('a')\n"),
    ("L3", "for x in (1, 2):\n    pass\n"),
    ("L4", "def f(*args):\n    return args\n"),
    ("L4", "def f(**more):\n    return more\n"),
    ("L4", "def f(*, a):\n    return a\n"),
    ("L4", "def f(a=[]):\n    return a\n"),
    ("L4", "def g(f):\n    return f\n\n\n@g\ndef f(a):\n    return a\n"),
    ("L5", "class A:\n    x = 1\n"),
    ("L5", "class A:\n    def __hash__(self):\n        return 1\n"),
    ("L5", "class A(list):\n    pass\n"),
    ("L6", "def f(a):\n    assert a\n"),
    ("L6", "def f(a):\n    del a[0]\n"),
    ("L6", "def f(a):\n    with a:\n        pass\n"),
    ("L6", "def f(a):\n    b = c = a\n    return b + c\n"),
    ("L6", "def f(a):\n    for b in a:\n        pass\n    else:\n        return 1\n"),
    ("L6", "def f(a):\n    try:\n        a()\n    finally:\n        a()\n"),
    ("L6", "def f(a):\n    a\n"),
    ("L7", "def f(a):\n    return a / 2\n"),
    ("L7", "def f(a):\n    return a + 1.5\n"),
    ("L7", "def f(a):\n    return b'x'\n"),
    ("L7", "def f(a):\n    return all(b for b in a)\n"),
    ("L7", "def f(a):\n    return {b: 1 for b in a}\n"),
    ("L7", "def f(a):\n    return [c for b in a for c in b]\n"),
    ("L7", "def f(a):\n    return f'{a + 1}'\n"),
    ("L7", "def f(a):\n    return [*a]\n"),
    ("L7", "def f(a):\n    if (b := a):\n        return b\n"),
    ("L7", "def f(a):\n    yield a\n"),
    ("L8", "def f(a):\n    return pow(a, 2)\n"),
    ("L8", "def f(a):\n    print(a)\n"),
    ("L8", "def len(a):\n    return 1\n"),
    ("L10", "def f(a):\n" + "    a = a + 1\n" * 40),
    ("L10", "X = 1\n" * 401),
    ("L10", "X = '" + "a" * 120 + "'\n"),
    ("L10", "def f(a):\n\treturn a\n"),
    ("L12", "def f(a):\n    _ = a\n"),
    ("L12", "def _f(a):\n    return a\n"),
    ("L13", "def f(a):\n    return sorted(a, key=lambda b: b) + sorted(a, key=lambda b: -b)\n"),
    ("L14", "# \u00e4\n"),
    ("L15", "X = 1\nX = 2\n"),
    ("L15", "X = [[1], [2]]\n"),
    ("L15", "X = [1]\n\n\ndef f(a):\n    X.append(a)\n"),
    ("L15", "X = [1]\n\n\ndef f():\n    return X\n"),
    ("L15", "X = {1: 2}\n\n\ndef f(a):\n    X[a] = 1\n"),
    ("L15", "def f(next):\n    return next\n"),
    ("L15", "def f():\n    class A:\n        pass\n    return A()\n"),
    ("L16", "from dueworth.other import tripled\n"),
    ("L16", "from dueworth.case import f\n\n\ndef g():\n    return f\n"),
    ("L17", "# what type it is\n"),
    ("L17", "def f(a):\n    return a.mro\n"),
    ("L17", "def f(a):\n    return a.f_back\n"),
    ("L18", "class A:\n    pass\n\n\ndef f():\n    return [A]\n"),
    ("L18", "class A:\n    pass\n\n\ndef f():\n    A.x = 1\n"),
    ("L18", "class A:\n    def b(self):\n        return 1\n\n    def b(self):\n        return 2\n"),
    ("L18", "class A:\n    def b(self):\n        self.b = 1\n"),
    ("L19", "def f(a):\n    try:\n        return f(a)\n    except ValueError:\n        return a\n"),
    ("L19", "def f(a):\n    try:\n        return a\n    except Exception:\n        return a\n"),
    ("L19", "def f(a):\n    try:\n        return a[1:2]\n    except IndexError:\n        return a\n"),
    ("L19", "def f(a):\n    raise a\n"),
    ("L19", "def f(a, b):\n    raise ValueError(a) from b\n"),
    ("L19", "def f(a):\n    try:\n        return int(a)\n    except ValueError as e:\n        raise ValueError(a) from a\n"),
    ("L19", "def f(a):\n    try:\n        return a[0]\n    except KeyError:\n        raise ValueError(a) from KeyError(a)\n"),
    ("L20", "def f(a):\n    return a is 1\n"),
    ("L21", "def f(a: int):\n    return a\n"),
    ("L21", "def f(a) -> int:\n    return a\n"),
    ("L22", "def f(a):\n    return [len]\n"),
    ("L22", "def f(a):\n    return int(a, base=3)\n"),
    ("L22", "def f(a):\n    return isinstance(a, set)\n"),
    ("L22", "def f(a):\n    return isinstance(a, (int, frozenset))\n"),
    ("L22", "def f(a, b):\n    return isinstance(a, b)\n"),
    ("L22", "def f(a, b):\n    return sorted(a, reverse=b)\n"),
    ("L23", "def f(a):\n    b = zip(a, a)\n    return list(b)\n"),
    ("L23", "def f(a):\n    return a.items()\n"),
    ("L23", "def f(a):\n    for b in a:\n        a.append(b)\n"),
    ("L23", "def f(a):\n    for b, c in enumerate(a):\n        a[b] = c\n"),
    ("L24", "def f(a):\n    b = set(a)\n    return len(b)\n"),
    ("L24", "def f(a):\n    return [b for b in set(a)]\n"),
    ("L25", "def f(a):\n    return a.casefold()\n"),
    ("L25", "def f(a):\n    return [a.append]\n"),
    ("L26", "class A:\n    def __init__(self):\n        self.items = 1\n"),
    ("L26", "class A:\n    def sort(self):\n        return 1\n"),
    ("L27", "def f(a):\n    return 2 ** a\n"),
    ("L27", "def f(a):\n    return 10 ** 65\n"),
    ("L27", "def f(a):\n    return '%'\n"),
    ("L27", "def f(a):\n    return '\\x41'\n"),
    ("L28", "class A:\n    def __init__(self):\n        return None\n"),
    ("L28", "class A:\n    def __len__(self):\n        return self.held()\n\n    def held(self):\n        return 1\n"),
)


class TestLanguage(unittest.TestCase):
    def test_the_package_keeps_to_the_rules(self):
        names = sorted(path.name for path in PACKAGE.iterdir() if path.name != "__pycache__")
        self.assertEqual([name for name in names if not name.endswith(".py")], [])
        texts = {name: (PACKAGE / name).read_bytes().decode("utf-8") for name in names}
        self.assertEqual(faults(texts), [])

    def test_what_keeps_to_the_rules_is_let_by(self):
        self.assertEqual(faults({"__init__.py": "", "other.py": OTHER, "case.py": GOOD}), [])

    def test_what_breaks_a_rule_is_told(self):
        for rule, text in BROKEN:
            with self.subTest(rule=rule, text=text[:80]):
                found = faults({"__init__.py": "", "other.py": OTHER, "case.py": text})
                self.assertIn(rule, [fault[0] for fault in found])

    def test_file_names(self):
        for rule, name in (("L1", "a-b.py"), ("L14", "Case.py"), ("L14", "test_it.py"), ("L14", "len.py")):
            self.assertIn((rule, name, 0), faults({"__init__.py": "", name: ""}))
        self.assertIn(("L14", "__init__.py", 0), faults({"case.py": ""}))

    def test_the_names_of_the_files_are_not_bound(self):
        self.assertIn(("L16", "__init__.py", 0), faults({"__init__.py": "case = 1\n", "case.py": ""}))
        self.assertEqual(faults({"__init__.py": "other = 1\n", "case.py": ""}), [])


if __name__ == "__main__":
    unittest.main()
