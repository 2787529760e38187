"""Shares one within another, joined and met."""

from gridshares.errors import NoFit


def lies_within(one, other):
    """Whether other has all cells of one."""
    if len(one) > len(other):
        return False
    return all([length <= limit for length, limit in zip(one, other)])


def need_within(one, other):
    """Refuse a share that doesn't lie within the other one."""
    if not lies_within(one, other):
        raise NoFit("the one share doesn't lie within the other")


def joined_shares(one, other):
    """The share that has all cells of both."""
    both = tuple([max(length, limit) for length, limit in zip(one, other)])
    # Behind the rows of both, one of the shares has no more rows.
    return both + one[len(both):] + other[len(both):]


def met_shares(one, other):
    """The share that has the cells that both have."""
    return tuple([min(length, limit) for length, limit in zip(one, other)])
