"""Promise [20]: fillings by their numbers; of [3], that they go there and back."""

import random

from gridshares.chains import chains_between
from gridshares.errors import NoFilling, NoFit, NoNumber
from gridshares.fillings import filling_of, is_filling
from gridshares.fillplaces import filling_at, place_of_filling
from tests.common import FAR_NUMBERS, WHATEVER, GridCase, all_shares, cell_set, chains_gone_through

SMALL = all_shares(3, 3)
WITHIN = [(one, other) for one in SMALL for other in SMALL if cell_set(one) <= cell_set(other)] + [
    ((), (4, 3)), ((1,), (4, 4)), ((), (2, 2, 2, 1)), ((2, 1), (4, 3, 1)),
]
GREAT = [
    ((), (6,) * 6), ((), (6, 5, 4, 3, 2, 1)), ((3, 1), (6,) * 6), ((1,), (6, 6, 6)), ((2, 2), (2,) * 6),
    ((5, 4, 3, 2, 1), (6,) * 6), ((5, 5), (6, 6, 4, 4, 1)),
]


def rows_from_the_greatest(filling):
    """The rows of the numbers, from the greatest one down."""
    rows = sorted((number, row) for row, numbers in enumerate(filling) for number in numbers)
    return [row for number, row in reversed(rows)]


def in_order(one, other):
    fillings = [filling_of(one, other, rows) for rows in chains_gone_through(one, other)]
    return sorted(fillings, key=rows_from_the_greatest)


class ByNumber(GridCase):
    def test_each_at_its_number_and_back(self):
        for one, other in WITHIN:
            for number, filling in enumerate(in_order(one, other)):
                self.tells(filling, filling_at, one, other, number)
                self.tells(number, place_of_filling, one, other, filling)

    def test_told(self):
        # The greatest number stands in the first row ahead of the second one.
        self.tells(((1, 3), (2,)), filling_at, (), (2, 1), 0)
        self.tells(((1, 2), (3,)), filling_at, (), (2, 1), 1)
        self.tells((), filling_at, (), (), 0)
        self.tells(0, place_of_filling, (), (), ())
        self.tells(((), ()), filling_at, (3, 1), (3, 1), 0)
        self.tells(0, place_of_filling, (3, 1), (3, 1), ((), ()))

    def test_great_shares(self):
        chance = random.Random(20)
        for one, other in GREAT:
            many = chains_between(one, other)
            ahead = []
            for number in sorted({0, many // 2, many - 1} | {chance.randrange(many) for time in range(4)}):
                filling = self.told(filling_at, one, other, number)
                self.assertTrue(is_filling(one, other, filling))
                self.assertLess(ahead, rows_from_the_greatest(filling))
                self.tells(number, place_of_filling, one, other, filling)
                ahead = rows_from_the_greatest(filling)
            for number in [many, many + 1, -1, -many]:
                self.refuses(NoNumber, filling_at, one, other, number)


class Refusals(GridCase):
    def test_no_number_whatever_it_is(self):
        for one, other in [((), ()), ((), (1,)), ((1,), (2, 2)), ((), (4, 3)), ((2, 1), (2, 1)), ((), (6,) * 6)]:
            for number in WHATEVER + FAR_NUMBERS + [(), (0,), -1]:
                self.refuses(NoNumber, filling_at, one, other, number)

    def test_no_number_just_beyond(self):
        for one, other in WITHIN:
            many = chains_between(one, other)
            for number in [-1, many, many + 1, 10 ** 29]:
                self.refuses(NoNumber, filling_at, one, other, number)

    def test_no_filling(self):
        for one, other in [((), (2, 1)), ((1,), (3, 2)), ((), (6,) * 6)]:
            for thing in WHATEVER + FAR_NUMBERS + [(), 0, ((),)]:
                self.refuses(NoFilling, place_of_filling, one, other, thing)
        for thing in [((1, 2), (1,)), ((2, 3), (1,)), ((2, 1), (3,)), ([1, 2], [3]), [(1, 2), (3,)], ((1, 2), (3,), ())]:
            self.refuses(NoFilling, place_of_filling, (), (2, 1), thing)

    def test_no_fit_goes_first(self):
        for one, other in [((1,), ()), ((2,), (1, 1)), ((1, 1), (6,)), ((6,) * 6, (6,) * 5)]:
            for thing in WHATEVER + FAR_NUMBERS + [0, 1, -1, ()]:
                self.refuses(NoFit, filling_at, one, other, thing)
                self.refuses(NoFit, place_of_filling, one, other, thing)
