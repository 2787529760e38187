"""Shares of a grid: what is one, how one is made, its cells, and it turned about."""

from gridshares.errors import NoShare
from gridshares.wholes import is_whole_from

MOST_ROWS = 20
LONGEST_ROW = 20


def is_falling(numbers):
    """Whether none of the numbers is greater than the one ahead."""
    return all([after <= ahead for ahead, after in zip(numbers, numbers[1:])])


def are_rows(things, shortest):
    """Whether a list or tuple holds the lengths of a share's rows, none below the shortest."""
    if len(things) > MOST_ROWS:
        return False
    # All are known to be numbers before any two are compared.
    if not all([is_whole_from(shortest, LONGEST_ROW, thing) for thing in things]):
        return False
    return is_falling(things)


def is_share(thing):
    """Whether the thing is a share, whatever it is."""
    return isinstance(thing, tuple) and are_rows(thing, 1)


def share_of(things):
    """The share of a list or tuple of row lengths, noughts at the end left out."""
    if not isinstance(things, (list, tuple)) or not are_rows(things, 0):
        raise NoShare("these are no rows of a share")
    # No row is longer than the one ahead, so noughts stand at the end only.
    return tuple([length for length in things if length > 0])


def cells_in(share):
    """How many cells the share has."""
    return sum(share)


def cells_of(share):
    """The cells of the share, rising."""
    return [(row, column) for row, length in enumerate(share) for column in range(length)]


def turned_share(share):
    """The share that has (column, row) for each cell of this one."""
    if not share:
        return ()
    return tuple([rows_beyond(share, column) for column in range(share[0])])


def padded_rows(share, high):
    """The lengths of so many rows, 0 for those that the share hasn't."""
    return share + (0,) * (high - len(share))


def rows_beyond(share, column):
    """How many rows of the share have a cell in the column."""
    return len([length for length in share if length > column])
