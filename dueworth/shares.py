"""Shares of a house's lines, and what they show."""

from dueworth.fractions import less, times, together, worth_of
from dueworth.lines import lines


def mix_of(house, found, shares):
    """For each deed of a house the sum of its passes' shares."""
    mix = []
    for d in range(len(house[1])):
        mix.append(together([share for line, share in zip(found, shares) if line[0] == d and line[1] is None]))
    return tuple(mix)


def shown_by(house, shares):
    """The mix and the cost (mix, cost) that shares of a house's lines show, or None."""
    found = lines(house)
    if len(shares) != len(found) or any([less(share, (0, 1)) for share in shares]):
        return None
    for jar in range(len(house[0])):
        if less(worth_of([line[3][jar] for line in found], shares), (0, 1)):
            return None
    cost = together([times(line[2], share) for line, share in zip(found, shares)])
    return (mix_of(house, found, shares), cost)
