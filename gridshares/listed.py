"""All shares of a box, those of so many cells, and those between two, as lists in the order of tuples."""

from gridshares.boxes import need_box
from gridshares.orders import lies_within
from gridshares.shares import padded_rows, share_of


def shares_of(box, n):
    """All shares of n cells that fit the box, rising."""
    need_box(box)
    high, wide = box
    return shares_to(high, wide, n)


def shares_in(box):
    """All shares that fit the box, rising."""
    need_box(box)
    high, wide = box
    return all_shares_to(high, wide)


def shares_to(high, wide, n):
    """All shares of n cells, of at most so many rows, none longer than wide."""
    if n == 0:
        return [()]
    if n < 0 or n > high * wide:
        return []
    return [
        (length,) + rest
        for length in range(1, min(wide, n) + 1)
        for rest in shares_to(high - 1, length, n - length)
    ]


def all_shares_to(high, wide):
    """All shares of at most so many rows, none longer than wide."""
    if high == 0:
        return [()]
    longer = [
        (length,) + rest
        for length in range(1, wide + 1)
        for rest in all_shares_to(high - 1, length)
    ]
    return [()] + longer


def shares_between(one, other):
    """All shares that one lies within and that lie within other, rising."""
    if not lies_within(one, other):
        return []
    begun = [()]
    for least, most in zip(padded_rows(one, len(other)), other):
        # A row is no longer than that of other, nor than the one ahead, if there is one.
        begun = [
            rows + (length,)
            for rows in begun
            for length in range(least, min(rows[-1:] + (most,)) + 1)
        ]
    return [share_of(rows) for rows in begun]
