"""Papers of chains: which are let by, and those that are told; the form of papers."""

from gridshares.chains import chains_hither, sum_hither
from gridshares.listed import shares_between
from gridshares.orders import lies_within, need_within
from gridshares.shares import is_share
from gridshares.wholes import is_whole


def lets_chains(one, other, paper, number):
    """Whether the paper shows that there are just so many chains, whatever paper and number are."""
    if not lies_within(one, other) or not is_whole(number) or not are_entries(paper):
        return False
    if shares_on(paper) != shares_between(one, other):
        return False
    table = table_of(paper)
    return table[other] == number and all([table[share] == sum_hither(one, share, table) for share in table])


def chains_paper(one, other):
    """The paper of the chains from one to other."""
    need_within(one, other)
    return entries_of(chains_hither(one, other))


def are_entries(thing):
    """Whether the thing is a list of tuples of a share and a whole number, whatever it is."""
    return isinstance(thing, list) and all([is_entry(entry) for entry in thing])


def is_entry(thing):
    """Whether the thing is a tuple of a share and a whole number, whatever it is."""
    if not isinstance(thing, tuple) or len(thing) != 2:
        return False
    share, number = thing
    return is_share(share) and is_whole(number)


def are_lists_of_entries(many, thing):
    """Whether the thing is a list of so many lists of entries, at least one, whatever it is."""
    if not isinstance(thing, list) or thing == [] or len(thing) != many:
        return False
    return all([are_entries(entries) for entries in thing])


def shares_on(entries):
    """The shares of the entries, in their order."""
    return [share for share, number in entries]


def table_of(entries):
    """The numbers of the entries by their shares."""
    return {share: number for share, number in entries}


def entries_of(table):
    """The entries of a table by shares, in the order of tuples."""
    return [(share, table[share]) for share in sorted(table)]
