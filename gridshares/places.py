"""Shares of so many cells in a box by their numbers, in the order of tuples, there and back."""

from gridshares.boxes import need_box, need_fit
from gridshares.counts import tables_to, told_in
from gridshares.errors import NoNumber
from gridshares.shares import cells_in
from gridshares.wholes import is_whole_from


def share_at(box, n, number):
    """The share of that number among those of n cells that fit the box."""
    need_box(box)
    high, wide = box
    tables = tables_to(high, wide)
    if not is_whole_from(0, told_in(tables[high][wide], n) - 1, number):
        raise NoNumber("there is no share of that number")
    rows = []
    while n > 0:
        length = row_at(tables[high], n, number)
        # Those whose row is shorter come ahead: they are the shares of the narrower box.
        number -= told_in(tables[high][length - 1], n)
        rows.append(length)
        n -= length
        high -= 1
    return tuple(rows)


def row_at(tables, n, number):
    """How long the first row is of the share of that number, the tables standing by width."""
    length = 1
    while told_in(tables[length], n) <= number:
        length += 1
    return length


def place_of(box, share):
    """The number of the share among those of as many cells that fit the box."""
    need_fit(box, share)
    high, wide = box
    tables = tables_to(high, wide)
    left = cells_in(share)
    number = 0
    for row, length in enumerate(share):
        number += told_in(tables[high - row][length - 1], left)
        left -= length
    return number
