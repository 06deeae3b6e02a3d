"""The rows of a house's charts to which some story from empty jars comes."""

from dueworth.charts import has_row
from dueworth.filling import fillable, parts_reached


def rows_of_body(body, names):
    """The rows of a body to which one can come taking only of jars of these names, the end too."""
    rows = [found for found in parts_reached(body, names) if has_row(found[0])]
    come_to = [row for row, found in enumerate(rows) if found[1]]
    return tuple(come_to + [len(rows)])


def rows_come_to(house):
    """For each deed the rising tuple of the rows that are come to."""
    names = fillable(house)
    return tuple([rows_of_body(deed[1], names) for deed in house[1]])
