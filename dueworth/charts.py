"""Charts: the rows of a body, and where one goes on from each."""

from dueworth.bodies import parts_in


def has_row(part):
    """Whether a part has a row of its own."""
    return part[0] not in ("rest", "then")


def rows_in(body):
    """How many rows a body has, the end not counted."""
    return len([part for part in parts_in(body) if has_row(part)])


def begin(body, first, behind):
    """The row at which a body begins whose rows, if it has any, are numbered from `first` on."""
    if rows_in(body) == 0:
        return behind
    return first


def rows_of_then(body, first, behind):
    """The rows of a then."""
    second = first + rows_in(body[1])
    onward = begin(body[2], second, behind)
    return rows_of(body[1], first, onward) + rows_of(body[2], second, behind)


def rows_of_choice(body, first, behind):
    """The rows of an either or a take: its own, then those of both sides."""
    one = body[-2]
    other = body[-1]
    second = first + 1 + rows_in(one)
    row = body[:-2] + (begin(one, first + 1, behind), begin(other, second, behind))
    return (row,) + rows_of(one, first + 1, behind) + rows_of(other, second, behind)


def rows_of_often(body, first, behind):
    """The rows of an often: its own, to which one comes back, then those of what it goes."""
    row = ("often", begin(body[1], first + 1, first), behind)
    return (row,) + rows_of(body[1], first + 1, first)


def rows_of(body, first, behind):
    """A body's rows, numbered from `first` on, where the row `behind` comes behind the body."""
    head = body[0]
    if head == "rest":
        return ()
    if head == "then":
        return rows_of_then(body, first, behind)
    if head == "often":
        return rows_of_often(body, first, behind)
    if head in ("either", "take"):
        return rows_of_choice(body, first, behind)
    return (body + (behind,),)


def chart(body):
    """The chart of a body: its rows, and the end's behind them."""
    return rows_of(body, 0, rows_in(body)) + (("end",),)
