"""Squares of numbers and what they are worth; choices of so many out of so many."""

from gridshares.errors import NoSquare
from gridshares.wholes import is_whole

MOST_ROWS_OF_SQUARE = 6


def is_square(thing):
    """Whether the thing is a square of numbers, whatever it is."""
    if not isinstance(thing, list) or len(thing) > MOST_ROWS_OF_SQUARE:
        return False
    return all([is_row_of_square(row, len(thing)) for row in thing])


def is_row_of_square(thing, wide):
    """Whether the thing is a list of so many whole numbers, whatever it is."""
    if not isinstance(thing, list) or len(thing) != wide:
        return False
    return all([is_whole(number) for number in thing])


def square_worth(square):
    """The products of the numbers of the even ways, less those of the odd ones."""
    if not is_square(square):
        raise NoSquare("this is no square of numbers")
    return worth_of(square)


def worth_of(rows):
    """What a square of however many rows is worth."""
    sign = 1
    divisor = 1
    while len(rows) > 1:
        filled = [at for at, row in enumerate(rows) if row[0] != 0]
        if not filled:
            return 0
        first = filled[0]
        # The row is taken to the top: each row that it passes makes even ways odd, and odd ones even.
        sign *= -1 if first % 2 == 1 else 1
        top = rows[first]
        rows = [row_below(top, row, divisor) for row in rows[:first] + rows[first + 1:]]
        divisor = top[0]
    return sign * rows[0][0] if rows else 1


def row_below(top, row, divisor):
    """The row of the square that is a row and a column smaller, divisor being the first of the top row before, or 1."""
    # Each number of the smaller square is the worth of a part of the first one, so the division leaves nothing over.
    return [(top[0] * row[column] - row[0] * top[column]) // divisor for column in range(1, len(row))]


def choices_of(a, b):
    """How many choices of b out of a there are."""
    if b < 0 or b > a:
        return 0
    choices = 1
    for taken in range(min(b, a - b)):
        # Now it is the choices of taken out of a, so the next one is a whole number, too.
        choices = choices * (a - taken) // (taken + 1)
    return choices
