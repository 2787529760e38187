"""The hooks of a share: of each cell, the cells right of it, those below it, and itself."""

from gridshares.errors import NoCell
from gridshares.shares import turned_share
from gridshares.wholes import is_whole_from


def hook_of(share, cell):
    """How many cells the hook of the cell has."""
    if not is_cell_of(share, cell):
        raise NoCell("this is no cell of the share")
    row, column = cell
    return hooks_of(share)[row][column]


def hooks_of(share):
    """All hooks of the share, a tuple for each row."""
    turned = turned_share(share)
    return tuple([hooks_of_row(row, length, turned) for row, length in enumerate(share)])


def hooks_of_row(row, length, turned):
    """The hooks of a row of that length, turned being the heights of the columns."""
    return tuple([length - column + turned[column] - row - 1 for column in range(length)])


def is_cell_of(share, thing):
    """Whether the thing is a cell of the share, whatever it is."""
    if not isinstance(thing, tuple) or len(thing) != 2:
        return False
    row, column = thing
    if not is_whole_from(0, len(share) - 1, row):
        return False
    return is_whole_from(0, share[row] - 1, column)
