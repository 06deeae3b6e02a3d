"""Overruns: stories that cost more than what is paid for their deeds."""

from dueworth.errors import NoStory
from dueworth.filled import filled
from dueworth.fractions import less, minus, times, together, whole, worth_of
from dueworth.lines import lines
from dueworth.shares import shown_by
from dueworth.stories import story_tally
from dueworth.traces import led_to
from dueworth.weighing import common_bottom, weighed


def gain_of_line(line, prices):
    """By how much a line costs more than is paid for it: for a pass its deed's price, for a round nothing."""
    return minus(line[2], prices[line[0]]) if line[1] is None else line[2]


def gain_of_story(house, story, prices):
    """By how much a story costs more than is paid for its deeds."""
    found = story_tally(house, story)
    return minus(found[0], worth_of(found[1], prices))


def gaining_lines(house, prices):
    """Few lines, each with a whole number from 1 on: gone so often they lose no things and cost more than is paid."""
    found = lines(house)
    # Where any shares gain by these prices the gain has no end; and what is told of that has few lines.
    shares = weighed(tuple([(None, gain_of_line(line, prices), line[3]) for line in found]), ())[1]
    bottom = common_bottom(shares)
    numbers = [whole(times(share, (bottom, 1))) for share in shares]
    return [(line, number) for line, number in zip(found, numbers) if number > 0]


def led(house, line, many):
    """The part of a story that goes a line so many times: a pass again, a round in one doing that leads to it."""
    d = line[0]
    if line[1] is None:
        return ("again", many, (("do", d, line[4]),))
    return ("do", d, led_to(house[1][d][1], line[1], ((many, line[4]),)))


def leading_only(house, found):
    """The doings that lead to the rounds of some lines, without going them."""
    rounds = [line for line, number in found if line[1] is not None]
    return tuple([("do", line[0], led_to(house[1][line[0]][1], line[1], ())) for line in rounds])


def times_to_exceed(gain, loss):
    """How many times, once at least, a gain is more than a loss."""
    return max(1, whole(times(loss, (gain[1], gain[0]))) + 1)


def gaining_story(house, prices):
    """A story that loses no things and costs more than is paid for it."""
    found = gaining_lines(house, prices)
    leading = leading_only(house, found)
    lost = tuple([max(0, -effect) for effect in story_tally(house, leading)[2]])
    brought = filled(house, lost)
    # What leads to rounds, and brings what is lost on the way, is paid once, however often the lines are gone.
    gain = together([times(gain_of_line(line, prices), (number, 1)) for line, number in found])
    many = times_to_exceed(gain, minus((0, 1), gain_of_story(house, brought + leading, prices)))
    return brought + tuple([led(house, line, number * many) for line, number in found])


def paid_for(mix, prices):
    """What is paid for a mix of fractions."""
    return together([times(number, price) for number, price in zip(mix, prices)])


def overrun(house, shares, prices, over):
    """A story from empty jars that costs more than its prices and a sum together, or NoStory."""
    shown = shown_by(house, shares)
    if shown is None or not less(paid_for(shown[0], prices), shown[1]):
        raise NoStory()
    story = gaining_story(house, prices)
    ahead = filled(house, story_tally(house, story)[3])
    loss = minus((over, 1), gain_of_story(house, ahead, prices))
    many = times_to_exceed(gain_of_story(house, story, prices), loss)
    return ahead + (("again", many, story),)
