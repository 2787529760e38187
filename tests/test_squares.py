"""Promise [16], and of [18] what it says of choices: squares of numbers and what they are worth."""

import itertools
import math
import random

from gridshares.errors import NoSquare
from gridshares.squares import choices_of, square_worth
from tests.common import FAR_NUMBERS, WHATEVER, GridCase, deep


def worth_gone_through(square):
    """All ways gone through, odd and even as the document tells."""
    worth = 0
    for columns in itertools.permutations(range(len(square))):
        pairs = [upper > lower for upper, lower in itertools.combinations(columns, 2)]
        product = math.prod(square[row][column] for row, column in enumerate(columns))
        worth += -product if sum(pairs) % 2 else product
    return worth


def squares_by_chance(chance, many, wide, least, most):
    return [[[chance.randint(least, most) for column in range(wide)] for row in range(wide)] for time in range(many)]


class Worth(GridCase):
    def test_told(self):
        self.tells(1, square_worth, [])
        self.tells(7, square_worth, [[7]])
        self.tells(-2, square_worth, [[1, 2], [3, 4]])
        self.tells(-1, square_worth, [[0, 1], [1, 0]])
        self.tells(1, square_worth, [[0, 1, 0], [0, 0, 1], [1, 0, 0]])
        self.tells(-1, square_worth, [[0, 0, 1], [0, 1, 0], [1, 0, 0]])
        self.tells(0, square_worth, [[0]])
        self.tells(0, square_worth, [[0] * 6] * 6)
        self.tells(64, square_worth, [[2 if row == column else 0 for column in range(6)] for row in range(6)])

    def test_all_squares_of_two_rows(self):
        for a, b, c, d in itertools.product(range(-2, 3), repeat=4):
            self.tells(a * d - b * c, square_worth, [[a, b], [c, d]])

    def test_all_squares_of_three_rows_of_noughts_and_ones(self):
        for numbers in itertools.product([0, 1], repeat=9):
            square = [list(numbers[at:at + 3]) for at in (0, 3, 6)]
            self.tells(worth_gone_through(square), square_worth, square)

    def test_each_way_alone(self):
        for wide in range(7):
            for columns in list(itertools.permutations(range(wide)))[::7]:
                square = [[3 if column == taken else 0 for column in range(wide)] for taken in columns]
                self.tells(worth_gone_through(square), square_worth, square)

    def test_held_against_all_ways(self):
        chance = random.Random(16)
        for wide in range(7):
            for least, most in [(-1, 1), (0, 1), (-9, 9), (-10 ** 6, 10 ** 6)]:
                for square in squares_by_chance(chance, 12, wide, least, most):
                    self.tells(worth_gone_through(square), square_worth, square)

    def test_rows_alike(self):
        chance = random.Random(17)
        for square in squares_by_chance(chance, 6, 6, -5, 5):
            self.tells(0, square_worth, square[:5] + [list(square[2])])
            self.tells(0, square_worth, [[0] + row[1:] for row in square])

    def test_thirty_figures(self):
        chance = random.Random(18)
        for wide in range(7):
            for square in squares_by_chance(chance, 4, wide, 1 - 10 ** 30, 10 ** 30 - 1):
                self.tells(worth_gone_through(square), square_worth, square)
        most = 10 ** 30 - 1
        self.tells(most, square_worth, [[most]])
        self.tells(-most * most, square_worth, [[0, most], [most, 0]])
        # What is told may be handed in again.
        self.tells(most ** 6 - 1, square_worth, [[most ** 6, 1], [1, 1]])

    def test_one_row_handed_in_many_times(self):
        row = [1, 2]
        self.tells(0, square_worth, [row, row])


class NoSquares(GridCase):
    def test_whatever_it_is(self):
        for thing in WHATEVER + FAR_NUMBERS + [(), 0, 1, -1]:
            if thing != []:
                self.refuses(NoSquare, square_worth, thing)

    def test_other_lengths(self):
        for thing in [
            [[]], [[], []], [[1], [1]], [[1, 2]], [[1, 2], [3]], [[1], [2, 3]], [[1, 2], [3, 4, 5]], [[1, 2, 3], [4, 5, 6]],
            [[1, 2], [3, 4], [5, 6]], [[1, 2], [3, 4], []], [[1, 2], []], [1], [1, 2], [[1, 2], 3], [1, [2, 3]],
            [[1] * 6] * 5, [[1] * 5] * 6, [[1] * 6] * 5 + [[1] * 7], [[1] * 1000],
        ]:
            self.refuses(NoSquare, square_worth, thing)

    def test_seven_rows(self):
        self.refuses(NoSquare, square_worth, [[0] * 7] * 7)
        self.refuses(NoSquare, square_worth, [[int(row == column) for column in range(7)] for row in range(7)])
        self.refuses(NoSquare, square_worth, [[1] * 8] * 8)
        self.refuses(NoSquare, square_worth, [[0] * 1000] * 1000)

    def test_tuples_in_the_place_of_lists(self):
        for thing in [(), ([1],), ((1,),), [(1,)], [(1, 2), [3, 4]], [[1, 2], (3, 4)], ([1, 2], [3, 4]), ((1, 2), (3, 4))]:
            self.refuses(NoSquare, square_worth, thing)

    def test_what_is_no_number_in_it(self):
        for wide in range(1, 7):
            for row, column in [(0, 0), (wide - 1, 0), (0, wide - 1), (wide - 1, wide - 1), (wide // 2, wide // 2)]:
                for thing in [True, False, None, "1", "", [1], (1,), {}, {1: 1}, [], (), deep(1, lambda one: [one], 9)]:
                    square = [[1] * wide for place in range(wide)]
                    square[row][column] = thing
                    self.refuses(NoSquare, square_worth, square)

    def test_texts_and_dicts_as_rows(self):
        for thing in [["1"], ["12", "34"], [{0: 1}], [{1: 1, 2: 2}, {1: 1, 2: 2}], {0: [1]}, {0: {0: 1}}, "1", ["12", [1, 2]]]:
            self.refuses(NoSquare, square_worth, thing)


class Choices(GridCase):
    def test_all_to_forty(self):
        for a in range(-40, 41):
            for b in range(-42, 43):
                self.tells(math.comb(a, b) if a >= 0 and b >= 0 else 0, choices_of, a, b)

    def test_four_hundred(self):
        for b in range(-400, 401):
            self.tells(math.comb(400, b) if b >= 0 else 0, choices_of, 400, b)
            self.tells(0, choices_of, -400, b)
            self.tells(0, choices_of, -1, b)
            self.tells(0, choices_of, b, -400)
            self.tells(0, choices_of, b, -1)
            self.tells(1 if b == 400 else 0, choices_of, b, 400)
        for a in range(301, 400, 7):
            for b in range(0, 401, 9):
                self.tells(math.comb(a, b), choices_of, a, b)

    def test_told(self):
        self.tells(1, choices_of, 0, 0)
        self.tells(0, choices_of, 0, 1)
        self.tells(6, choices_of, 4, 2)
        self.tells(0, choices_of, 4, 5)
        self.tells(0, choices_of, -4, -4)
        self.tells(0, choices_of, -4, 2)
        self.tells(0, choices_of, -4, 0)

    def test_somewhat_beyond(self):
        self.tells(math.comb(500, 250), choices_of, 500, 250)
        self.tells(0, choices_of, -500, -500)
