"""How many chains and stacks lead from one share to another, by squares of numbers."""

from gridshares.orders import lies_within
from gridshares.shares import cells_in, padded_rows
from gridshares.squares import choices_of, worth_of
from gridshares.wholes import factorial_of, product_of


def chains_by_square(one, other):
    """How many chains lead from one to other."""
    if not lies_within(one, other):
        return 0
    rows = [row_of_gaps(i, length, one, other) for i, length in enumerate(other)]
    # To stay among whole numbers, 1 over f! is taken times the greatest f! of its row, and the whole divided by these.
    greatest = [factorial_of(max(row)) for row in rows]
    parts = [parts_of(factorial, row) for factorial, row in zip(greatest, rows)]
    n = cells_in(other) - cells_in(one)
    return factorial_of(n) * worth_of(parts) // product_of(greatest)


def row_of_gaps(i, length, one, other):
    """The numbers other_i - i - one_j + j, of all rows j, length being other_i."""
    return [length - i - under + j for j, under in enumerate(padded_rows(one, len(other)))]


def parts_of(factorial, row):
    """The factorial over f! for each number f of the row, 0 where f is below 0."""
    return [factorial // factorial_of(f) if f >= 0 else 0 for f in row]


def stacks_by_square(one, other, k):
    """How many stacks of k shares lead from one to other."""
    if not lies_within(one, other):
        return 0
    return worth_of([row_of_choices(i, length, one, other, k) for i, length in enumerate(other)])


def row_of_choices(i, length, one, other, k):
    """The numbers (other_i - one_j + k) over (i - j + k), of all rows j, length being other_i."""
    return [choices_of(length - under + k, i - j + k) for j, under in enumerate(padded_rows(one, len(other)))]
