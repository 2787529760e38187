"""The rows at which a cell may be put in or taken out, and the shares that are left."""

from gridshares.boxes import need_fit
from gridshares.errors import NoRow
from gridshares.shares import LONGEST_ROW, MOST_ROWS
from gridshares.wholes import is_whole


def in_rows(share):
    """The rows, rising, at which a cell more leaves a share."""
    return rows_with_room(MOST_ROWS, LONGEST_ROW, share)


def out_rows(share):
    """The rows, rising, whose last cell may go."""
    below = share[1:] + (0,)
    return [row for row, (length, under) in enumerate(zip(share, below)) if under < length]


def in_rows_of(box, share):
    """The rows, rising, at which a cell more leaves a share that fits the box."""
    need_fit(box, share)
    high, wide = box
    return rows_with_room(high, wide, share)


def rows_with_room(high, wide, share):
    """The rows, rising, at which a cell more leaves a share of at most so many rows, none longer than wide."""
    above = (wide,) + share
    lengths = share + (0,)
    return [row for row, (limit, length) in enumerate(zip(above, lengths)) if length < limit and row < high]


def put_in(share, row):
    """The share with a cell more at the end of the row."""
    need_row(in_rows(share), row)
    if row == len(share):
        return share + (1,)
    return share[:row] + (share[row] + 1,) + share[row + 1:]


def taken_out(share, row):
    """The share without the last cell of the row."""
    need_row(out_rows(share), row)
    # A row of one cell that may go is the last one.
    if share[row] == 1:
        return share[:row]
    return share[:row] + (share[row] - 1,) + share[row + 1:]


def is_row_of(rows, thing):
    """Whether the thing is one of the rows, whatever it is."""
    # True and False would be found among the rows 0 and 1.
    return is_whole(thing) and thing in rows


def need_row(rows, thing):
    """Refuse whatever is none of the rows."""
    if not is_row_of(rows, thing):
        raise NoRow("there is no such row here")
