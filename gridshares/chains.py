"""Chains from one share to another by a cell a step: what is one, turned about, its way back, how many there are."""

from gridshares.boxes import need_fit
from gridshares.corners import in_rows, is_row_of, out_rows, put_in, taken_out
from gridshares.errors import NoChain
from gridshares.listed import shares_between
from gridshares.orders import lies_within
from gridshares.shares import padded_rows


def is_chain(one, other, thing):
    """Whether the thing is a chain from one to other, whatever it is."""
    if not isinstance(thing, list):
        return False
    share = one
    for row in thing:
        if not is_row_of(in_rows(share), row):
            return False
        share = put_in(share, row)
    return share == other


def need_chain(one, other, thing):
    """Refuse whatever is no chain from one to other."""
    if not is_chain(one, other, thing):
        raise NoChain("this is no chain from the one share to the other")


def turned_chain(one, other, rows):
    """The columns at which the cells of the chain come."""
    need_chain(one, other, rows)
    lengths = list(padded_rows(one, len(other)))
    columns = []
    for row in rows:
        columns.append(lengths[row])
        lengths[row] += 1
    return columns


def chain_back(box, one, other, rows):
    """The way back, by the others of the box: from the other of other to the other of one."""
    need_fit(box, other)
    need_chain(one, other, rows)
    high, wide = box
    return [high - 1 - row for row in reversed(rows)]


def chains_between(one, other):
    """How many chains lead from one to other."""
    return chains_onward(one, other).get(one, 0)


def chains_onward(one, other):
    """The table of how many chains lead to other from each share between; empty if one doesn't lie within other."""
    table = {}
    # In the order of tuples a share comes ahead of all that it lies within.
    for share in reversed(shares_between(one, other)):
        onward = [table[left] for row, left in puts_within(other, share)]
        table[share] = 1 if share == other else sum(onward)
    return table


def chains_hither(one, other):
    """The table of how many chains lead from one to each share between; empty if one doesn't lie within other."""
    table = {}
    for share in shares_between(one, other):
        table[share] = sum_hither(one, share, table)
    return table


def sum_hither(one, share, table):
    """How many chains lead from one to the share, by the table of those to the shares of a cell less."""
    if share == one:
        return 1
    return sum([table[left] for row, left in takes_around(one, share)])


def puts_within(other, share):
    """The rows, rising, at which a cell more leaves a share within other, each with that share."""
    puts = [(row, put_in(share, row)) for row in in_rows(share)]
    return [(row, left) for row, left in puts if lies_within(left, other)]


def takes_around(one, share):
    """The rows, rising, at which a cell less leaves a share that one lies within, each with that share."""
    takes = [(row, taken_out(share, row)) for row in out_rows(share)]
    return [(row, left) for row, left in takes if lies_within(one, left)]
