"""Sums of the tests' own, by Python's fractions."""

import math
from fractions import Fraction


def worth(one):
    return Fraction(one[0], one[1])


def worths(fractions):
    return [Fraction(one[0], one[1]) for one in fractions]


def is_fraction(one):
    """Whether a thing is a pair of whole numbers in lowest terms, the second from 1 on."""
    if type(one) is not tuple or [type(number) for number in one] != [int, int]:
        return False
    return one[1] >= 1 and math.gcd(*one) == 1


def are_fractions(some):
    """Whether a thing is a tuple of fractions."""
    return type(some) is tuple and all(is_fraction(one) for one in some)


def dot(ones, others):
    """Numbers times numbers, as many, added up."""
    assert len(ones) == len(others)
    return sum(one * other for one, other in zip(ones, others))


def wholes(numbers):
    """Fractions of whole numbers."""
    return tuple((number, 1) for number in numbers)
