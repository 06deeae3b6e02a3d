"""Traces: what is chosen on a way through a body."""

from dueworth.bodies import parts, parts_in


def is_whole(thing):
    """Whether a thing is a whole number."""
    return isinstance(thing, int) and not isinstance(thing, bool)


def is_many(thing):
    """Whether a thing is a whole number from 1 on."""
    return is_whole(thing) and thing >= 1


def is_going(body, going):
    """Whether a thing is a going of an often of a body."""
    if not isinstance(going, tuple) or len(going) != 2:
        return False
    return is_many(going[0]) and is_trace(body, going[1])


def is_trace(body, trace):
    """Whether a thing is a trace of a body."""
    if not isinstance(trace, tuple):
        return False
    head = body[0]
    if head == "often":
        return all([is_going(body[1], going) for going in trace])
    if head not in ("then", "either", "take"):
        return trace == ()
    if len(trace) != 2:
        return False
    if head == "then":
        return is_trace(body[1], trace[0]) and is_trace(body[2], trace[1])
    return is_whole(trace[0]) and trace[0] in (0, 1) and is_trace(chosen(body, trace), trace[1])


def chosen(body, trace):
    """The side of an either or a take that a trace chooses."""
    return body[-2 + trace[0]]


def plain_trace(body):
    """The trace that chooses A of each either, takes nothing and goes no often."""
    if body[0] == "then":
        return (plain_trace(body[1]), plain_trace(body[2]))
    if body[0] == "either":
        return (0, plain_trace(body[1]))
    if body[0] == "take":
        return (1, plain_trace(body[4]))
    return ()


def often_places(body):
    """Where the oftens of a body stand among all its parts."""
    return [place for place, part in enumerate(parts_in(body)) if part[0] == "often"]


def oftens(body):
    """How many oftens a body has."""
    return len(often_places(body))


def led_to_part(body, place, trace):
    """The trace of a body that leads to its part at a place, gone by a trace of that part, plain in all else."""
    if place == 0:
        return trace
    if body[0] == "often":
        return ((1, led_to_part(body[1], place - 1, trace)),)
    one = body[-2]
    other = body[-1]
    second = 1 + parts(one)
    side = 0 if place < second else 1
    inner = led_to_part(one, place - 1, trace) if side == 0 else led_to_part(other, place - second, trace)
    if body[0] != "then":
        return (side, inner)
    if side == 0:
        return (inner, plain_trace(other))
    return (plain_trace(one), inner)


def led_to(body, number, goings):
    """The trace of a body that leads to the often of a number, which is gone by some goings."""
    return led_to_part(body, often_places(body)[number], goings)
