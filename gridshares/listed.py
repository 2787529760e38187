"""All shares of a box, and those of so many cells, as lists in the order of tuples."""

from gridshares.boxes import need_box


def shares_of(box, n):
    """All shares of n cells that fit the box, rising."""
    need_box(box)
    high, wide = box
    return shares_to(high, wide, n)


def shares_in(box):
    """All shares that fit the box, rising."""
    need_box(box)
    high, wide = box
    return all_shares_to(high, wide)


def shares_to(high, wide, n):
    """All shares of n cells, of at most so many rows, none longer than wide."""
    if n == 0:
        return [()]
    if n < 0 or n > high * wide:
        return []
    return [
        (length,) + rest
        for length in range(1, min(wide, n) + 1)
        for rest in shares_to(high - 1, length, n - length)
    ]


def all_shares_to(high, wide):
    """All shares of at most so many rows, none longer than wide."""
    if high == 0:
        return [()]
    longer = [
        (length,) + rest
        for length in range(1, wide + 1)
        for rest in all_shares_to(high - 1, length)
    ]
    return [()] + longer
