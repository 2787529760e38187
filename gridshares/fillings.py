"""Fillings of the cells between two shares: what is one, of a chain and back, and turned about."""

from gridshares.chains import is_chain, need_chain, turned_chain
from gridshares.errors import NoFilling
from gridshares.orders import need_within
from gridshares.shares import padded_rows, turned_share
from gridshares.wholes import is_whole


def is_filling(one, other, thing):
    """Whether the thing is a filling of one and other, whatever it is."""
    need_within(one, other)
    if not is_shaped(one, other, thing):
        return False
    numbers = [number for row in thing for number in row]
    # All are known to be numbers before any two are compared.
    if not all([is_whole(number) for number in numbers]):
        return False
    if sorted(numbers) != list(range(1, len(numbers) + 1)):
        return False
    if not all([list(row) == sorted(row) for row in thing]):
        return False
    # The numbers rise downwards just where no cell comes ahead of the one above it.
    return is_chain(one, other, rows_by_number(thing))


def is_shaped(one, other, thing):
    """Whether the thing is a tuple of a tuple for each row of other, as long as the row has cells that one hasn't."""
    if not isinstance(thing, tuple) or len(thing) != len(other):
        return False
    if not all([isinstance(row, tuple) for row in thing]):
        return False
    lengths = [most - least for least, most in zip(padded_rows(one, len(other)), other)]
    return [len(row) for row in thing] == lengths


def rows_by_number(filling):
    """The rows of the numbers, from 1 on."""
    rows = {number: row for row, numbers in enumerate(filling) for number in numbers}
    return [rows[number] for number in sorted(rows)]


def need_filling(one, other, thing):
    """Refuse one that doesn't lie within other, then whatever is no filling of them."""
    if not is_filling(one, other, thing):
        raise NoFilling("this is no filling of the two shares")


def filling_of(one, other, rows):
    """The filling that has the number of each step of the chain in the cell that comes."""
    need_within(one, other)
    need_chain(one, other, rows)
    numbers = [[] for length in other]
    for step, row in enumerate(rows):
        numbers[row].append(step + 1)
    return tuple([tuple(row) for row in numbers])


def chain_of(one, other, filling):
    """The chain that leads to the filling."""
    need_filling(one, other, filling)
    return rows_by_number(filling)


def turned_filling(one, other, filling):
    """The filling of both turned about that has each number in its cell turned."""
    rows = chain_of(one, other, filling)
    return filling_of(turned_share(one), turned_share(other), turned_chain(one, other, rows))
