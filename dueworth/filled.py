"""Stories that fill jars."""

from dueworth.errors import NoStory
from dueworth.filling import filling
from dueworth.stories import story_tally
from dueworth.tallies import tally


def brought(house, step, count):
    """The part of a story that brings at least so many things by a step of a filling."""
    each = tally(house, step[1], step[2])[1][step[0]]
    many = -(-count // each)
    return ("again", many, (("do", step[1], step[2]),))


def needed_ahead(house, part, needed):
    """What the jars must hold ahead of a part of a story so that they hold what is needed behind it."""
    found = story_tally(house, (part,))
    return tuple([max(asked, count - effect) for effect, asked, count in zip(found[2], found[3], needed)])


def filled(house, counts):
    """A story from empty jars behind which each jar holds at least so many things, or NoStory."""
    story = ()
    needed = counts
    # A step takes only of jars ahead of its own: from the last one on, what it needs is left to those ahead.
    for step in reversed(filling(house)):
        if needed[step[0]] > 0:
            part = brought(house, step, needed[step[0]])
            needed = needed_ahead(house, part, needed)
            story = (part,) + story
    # What is needed ahead of all steps is what no step brings.
    if any([count > 0 for count in needed]):
        raise NoStory()
    return story
