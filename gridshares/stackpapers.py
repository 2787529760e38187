"""Papers of stacks: which are let by, and those that are told."""

from gridshares.countpapers import are_lists_of_entries, entries_of, shares_on, table_of
from gridshares.listed import shares_between
from gridshares.orders import lies_within, need_within
from gridshares.stacks import stack_tables_hither
from gridshares.wholes import is_whole


def lets_stacks(one, other, k, paper, number):
    """Whether the paper shows that there are just so many stacks of k shares, whatever paper and number are."""
    if not lies_within(one, other) or not is_whole(number) or not are_lists_of_entries(k + 1, paper):
        return False
    between = shares_between(one, other)
    if not all([shares_on(entries) == between for entries in paper]):
        return False
    if paper[0] != [(share, 1) for share in between]:
        return False
    tables = [table_of(entries) for entries in paper]
    return tables[k][other] == number and all([are_sums(one, ahead, table) for ahead, table in zip(tables, tables[1:])])


def are_sums(one, ahead, table):
    """Whether each number of the table is the sum of those that the table ahead has of the shares within its share."""
    return all([table[share] == sum([ahead[under] for under in shares_between(one, share)]) for share in table])


def stacks_paper(one, other, k):
    """The paper of the stacks of k shares from one to other."""
    need_within(one, other)
    return [entries_of(table) for table in stack_tables_hither(one, other, k)]
