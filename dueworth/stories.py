"""Stories: doings of deeds one behind the other, looked at and tallied."""

from dueworth.tallies import added, again, behind, multiplied, no_tally, tally
from dueworth.traces import is_many, is_trace, is_whole


def is_do(house, d, trace):
    """Whether a deed of a number can be done by a trace."""
    return is_whole(d) and 0 <= d < len(house[1]) and is_trace(house[1][d][1], trace)


def is_part(house, part):
    """Whether a thing is a part of a story, but for what stands in the story of an `again`."""
    if not isinstance(part, tuple) or len(part) != 3:
        return False
    if part[0] == "do":
        return is_do(house, part[1], part[2])
    return part[0] == "again" and is_many(part[1]) and isinstance(part[2], tuple) and part[2] != ()


def is_story(house, story):
    """Whether a thing is a story of a house."""
    if not isinstance(story, tuple):
        return False
    waiting = list(story)
    while waiting != []:
        part = waiting.pop()
        if not is_part(house, part):
            return False
        if part[0] == "again":
            waiting.extend(part[2])
    return True


def tally_of_story(house, story):
    """The cost, effect and demand of a story."""
    found = no_tally(house[0])
    for part in story:
        if part[0] == "do":
            found = behind(found, tally(house, part[1], part[2]))
        else:
            found = behind(found, again(tally_of_story(house, part[2]), part[1]))
    return found


def counts_of_story(house, story):
    """How often each deed is done in a story."""
    found = (0,) * len(house[1])
    for part in story:
        if part[0] == "do":
            one = tuple([1 if d == part[1] else 0 for d in range(len(found))])
            found = added(found, one)
        else:
            found = added(found, multiplied(counts_of_story(house, part[2]), part[1]))
    return found


def story_tally(house, story):
    """The cost, the counts of deeds, the effect and the demand of a story."""
    found = tally_of_story(house, story)
    return (found[0], counts_of_story(house, story), found[1], found[2])
