"""Shares one within another, joined and met."""


def lies_within(one, other):
    """Whether other has all cells of one."""
    if len(one) > len(other):
        return False
    return all([length <= limit for length, limit in zip(one, other)])


def joined_shares(one, other):
    """The share that has all cells of both."""
    both = tuple([max(length, limit) for length, limit in zip(one, other)])
    # Behind the rows of both, one of the shares has no more rows.
    return both + one[len(both):] + other[len(both):]


def met_shares(one, other):
    """The share that has the cells that both have."""
    return tuple([min(length, limit) for length, limit in zip(one, other)])
