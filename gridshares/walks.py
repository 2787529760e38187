"""Walks in a box, cells put in and taken out: what is one, its shares, how many, from behind, by the others."""

from gridshares.boxes import need_fit
from gridshares.corners import in_rows_of, is_row_of, out_rows, put_in, taken_out
from gridshares.errors import NoWalk

PUT = "put"
TAKE = "take"


def need_ends(box, one, other):
    """Refuse what is no box, then shares that don't fit it."""
    need_fit(box, one)
    need_fit(box, other)


def is_walk(box, one, other, thing):
    """Whether the thing is a walk in the box from one to other, whatever it is."""
    need_ends(box, one, other)
    if not isinstance(thing, list):
        return False
    share = one
    for step in thing:
        if not is_step(box, share, step):
            return False
        share = share_behind(share, step)
    return share == other


def is_step(box, share, thing):
    """Whether the thing is a step that leads from the share to one that fits the box, whatever it is."""
    if not isinstance(thing, tuple) or len(thing) != 2:
        return False
    word, row = thing
    if word == PUT:
        return is_row_of(in_rows_of(box, share), row)
    return word == TAKE and is_row_of(out_rows(share), row)


def share_behind(share, step):
    """The share that the step leads to."""
    word, row = step
    if word == PUT:
        return put_in(share, row)
    return taken_out(share, row)


def need_walk(box, one, other, thing):
    """Refuse what is no box, shares that don't fit it, then whatever is no walk from one to other."""
    if not is_walk(box, one, other, thing):
        raise NoWalk("this is no walk in the box from the one share to the other")


def walk_shares(box, one, other, steps):
    """The shares of the walk, from one to other."""
    need_walk(box, one, other, steps)
    share = one
    shares = [one]
    for step in steps:
        share = share_behind(share, step)
        shares.append(share)
    return shares


def walks_between(box, one, other, k):
    """How many walks of k steps in the box lead from one to other."""
    need_ends(box, one, other)
    if k < 0:
        return 0
    return walk_tables(box, other, k)[k].get(one, 0)


def walk_tables(box, other, k):
    """For each number of steps to k a table of how many walks of so many lead to other, by the share ahead of them."""
    tables = [{other: 1}]
    for step in range(k):
        tables.append(longer_walks(box, tables[step]))
    return tables


def longer_walks(box, table):
    """The table of the walks of a step more than those of the table."""
    longer = {}
    # Each step may be taken back, so where steps lead to is where they come from.
    for share in table:
        for step, left in steps_from(box, share):
            longer[left] = longer.get(left, 0) + table[share]
    return longer


def steps_from(box, share):
    """All steps from the share in the box, in the order of tuples, each with the share it leads to."""
    puts = [(PUT, row) for row in in_rows_of(box, share)]
    takes = [(TAKE, row) for row in out_rows(share)]
    return [(step, share_behind(share, step)) for step in puts + takes]


def walk_back(box, one, other, steps):
    """The walk from behind, with put for take: from other to one."""
    need_walk(box, one, other, steps)
    return [(undone(word), row) for word, row in reversed(steps)]


def walk_of_others(box, one, other, steps):
    """The walk by the others of the box: from the other of one to the other of other."""
    need_walk(box, one, other, steps)
    high, wide = box
    return [(undone(word), high - 1 - row) for word, row in steps]


def undone(word):
    """The word of the step that takes one of this word back."""
    return TAKE if word == PUT else PUT
