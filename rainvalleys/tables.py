"""Gauges that read the depth of one column, and tables of all columns."""

from rainvalleys.errors import InvalidColumn
from rainvalleys.integers import is_whole_within
from rainvalleys.profiles import MOST_COLUMNS


def table_line(flood, column):
    """The line of a table for one column."""
    height = flood.profile.heights[column]
    word = "dry"
    if column in flood:
        word = "wet"
    return f"{column:>3}{height:>8}{str(flood.depth(column)):>12}{word:<5}"


def table(flood):
    """A text with one line for each column: its index, its height, its depth, and whether it is wet."""
    return "\n".join([table_line(flood, column) for column in range(len(flood.profile))])


class Gauge:
    """An object that is called with a flood and returns the depth of its column there."""

    def __init__(self, column):
        if not is_whole_within(column, 0, MOST_COLUMNS - 1):
            raise InvalidColumn(column)
        self.place = column

    @property
    def column(self):
        """The column."""
        return self.place

    def __call__(self, flood):
        return flood.depth(self.place)

    def __eq__(self, other):
        return isinstance(other, Gauge) and self.place == other.place
