"""All chains from one share to another, and each by its number, in the order of lists, there and back."""

from gridshares.chains import chains_onward, need_chain, puts_within
from gridshares.corners import put_in
from gridshares.errors import NoNumber
from gridshares.orders import lies_within
from gridshares.shares import cells_in
from gridshares.wholes import is_whole_from, part_at


def all_chains(one, other):
    """All chains from one to other, rising."""
    if not lies_within(one, other):
        return []
    begun = [([], one)]
    for step in range(cells_in(other) - cells_in(one)):
        begun = [
            (rows + [row], left)
            for rows, share in begun
            for row, left in puts_within(other, share)
        ]
    return [rows for rows, share in begun]


def chain_at(one, other, number):
    """The chain of that number among those from one to other."""
    table = chains_onward(one, other)
    if not is_whole_from(0, table.get(one, 0) - 1, number):
        raise NoNumber("there is no chain of that number")
    share = one
    rows = []
    while share != other:
        puts = puts_within(other, share)
        part, number = part_at([table[left] for row, left in puts], number)
        row, share = puts[part]
        rows.append(row)
    return rows


def place_of_chain(one, other, rows):
    """The number of the chain among those from one to other."""
    need_chain(one, other, rows)
    table = chains_onward(one, other)
    share = one
    number = 0
    for row in rows:
        number += sum([table[left] for ahead, left in puts_within(other, share) if ahead < row])
        share = put_in(share, row)
    return number
