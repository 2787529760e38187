"""Boxes: what is one, which shares fit one, its full share, and the other one of a share."""

from gridshares.errors import NoBox, NoFit
from gridshares.shares import padded_rows, share_of
from gridshares.wholes import is_whole_from

LONGEST_SIDE = 20


def is_box(thing):
    """Whether the thing is a box, whatever it is."""
    if not isinstance(thing, tuple) or len(thing) != 2:
        return False
    return all([is_whole_from(0, LONGEST_SIDE, side) for side in thing])


def need_box(thing):
    """Refuse whatever is no box."""
    if not is_box(thing):
        raise NoBox("this is no box")


def fits_in(box, share):
    """Whether the share fits the box."""
    need_box(box)
    high, wide = box
    # No row is longer than the first one.
    return len(share) <= high and (not share or share[0] <= wide)


def need_fit(box, share):
    """Refuse what is no box, then a share that doesn't fit it."""
    if not fits_in(box, share):
        raise NoFit("the share doesn't fit the box")


def full_share(box):
    """The share that has all cells of the box."""
    need_box(box)
    high, wide = box
    return share_of([wide] * high)


def other_share(box, share):
    """The share of the cells that the box has and the share hasn't, seen from the far corner."""
    need_fit(box, share)
    high, wide = box
    return share_of([wide - length for length in reversed(padded_rows(share, high))])
