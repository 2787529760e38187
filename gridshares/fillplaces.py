"""Fillings by their numbers, in the order of the rows of their numbers from the greatest down, there and back."""

from gridshares.chains import chains_hither, takes_around
from gridshares.corners import taken_out
from gridshares.errors import NoNumber
from gridshares.fillings import chain_of, filling_of
from gridshares.orders import need_within
from gridshares.wholes import is_whole_from, part_at


def filling_at(one, other, number):
    """The filling of that number among those of one and other."""
    need_within(one, other)
    table = chains_hither(one, other)
    if not is_whole_from(0, table[other] - 1, number):
        raise NoNumber("there is no filling of that number")
    share = other
    rows = []
    while share != one:
        takes = takes_around(one, share)
        part, number = part_at([table[left] for row, left in takes], number)
        row, share = takes[part]
        rows.append(row)
    return filling_of(one, other, rows[::-1])


def place_of_filling(one, other, filling):
    """The number of the filling among those of one and other."""
    rows = chain_of(one, other, filling)
    table = chains_hither(one, other)
    share = other
    number = 0
    for row in reversed(rows):
        number += sum([table[left] for ahead, left in takes_around(one, share) if ahead < row])
        share = taken_out(share, row)
    return number
