"""How many piles fit a box of three ways, by the product over its cells and, of so many cells, by a table."""

from gridshares.piles import need_deep_box
from gridshares.wholes import product_of


def piles_in(box):
    """How many piles fit the box."""
    need_deep_box(box)
    high, wide, deep = box
    sums = [row + column + layer for row in range(high) for column in range(wide) for layer in range(deep)]
    return product_of([far + 2 for far in sums]) // product_of([far + 1 for far in sums])


def piles_by_cells(box):
    """The list of how many piles of so many cells fit the box, from 0 cells on."""
    need_deep_box(box)
    high, wide, deep = box
    table = [1] + [0] * (high * wide * deep)
    # The same product with 1 - x^n in the place of each number n tells, at x^m, how many have m cells. Over the layers
    # of one row and column each upper part is the next lower one, so that only the first and the last part are left.
    for far in [row + column for row in range(high) for column in range(wide)]:
        table = divided_table(multiplied_table(table, far + deep + 1), far + 1)
    return table


def multiplied_table(table, n):
    """The table times 1 - x^n, as far as it goes."""
    return [many - (table[m - n] if m >= n else 0) for m, many in enumerate(table)]


def divided_table(table, n):
    """The table over 1 - x^n, as far as it goes."""
    divided = []
    for m, many in enumerate(table):
        divided.append(many + (divided[m - n] if m >= n else 0))
    return divided
