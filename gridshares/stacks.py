"""Stacks of shares, one within the next: what is one, how many there are, joined and met."""

from gridshares.errors import NoStack
from gridshares.listed import shares_between
from gridshares.orders import joined_shares, lies_within, met_shares
from gridshares.shares import is_share


def is_stack(one, other, k, thing):
    """Whether the thing is a stack of k shares from one to other, whatever it is."""
    if not isinstance(thing, list) or len(thing) != k:
        return False
    if not all([is_share(share) for share in thing]):
        return False
    return all([lies_within(under, over) for under, over in zip([one] + thing, thing + [other])])


def need_stack(one, other, thing):
    """Refuse whatever is no stack from one to other, of however many shares."""
    if not isinstance(thing, list) or not is_stack(one, other, len(thing), thing):
        raise NoStack("this is no stack from the one share to the other")


def stacks_between(one, other, k):
    """How many stacks of k shares lead from one to other."""
    if k < 0:
        return 0
    return stack_tables(one, other, k)[k].get(one, 0)


def stack_tables(one, other, k):
    """For each number of shares to k a table of how many stacks of so many lead to other from each share between."""
    return tables_of_sums({share: shares_between(share, other) for share in shares_between(one, other)}, k)


def stack_tables_hither(one, other, k):
    """For each number of shares to k a table of how many stacks of so many lead from one to each share between."""
    return tables_of_sums({share: shares_between(one, share) for share in shares_between(one, other)}, k)


def tables_of_sums(nexts, k):
    """A table of 1 for each share, and k further ones of the sums, in the table ahead, over the shares next to it."""
    tables = [{share: 1 for share in nexts}]
    for step in range(k):
        table = tables[step]
        tables.append({share: sum([table[near] for near in nexts[share]]) for share in nexts})
    return tables


def joined_stacks(some, others):
    """Two stacks of as many shares joined, share by share."""
    return [joined_shares(one, other) for one, other in zip(some, others)]


def met_stacks(some, others):
    """Two stacks of as many shares met, share by share."""
    return [met_shares(one, other) for one, other in zip(some, others)]
