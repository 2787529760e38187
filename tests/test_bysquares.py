"""Promises [17] and [18]: chains and stacks by squares; of [3], that each road tells the same."""

import itertools
import math

from gridshares.boxes import other_share
from gridshares.bysquares import chains_by_square, stacks_by_square
from gridshares.chains import chains_between
from gridshares.products import chains_to
from gridshares.shares import turned_share
from tests.common import GridCase, all_shares, cell_set, chains_gone_through, stacks_gone_through

SMALL = all_shares(3, 3)
PAIRS = [(one, other) for one in SMALL for other in SMALL]
NOT_WITHIN = [(one, other) for one, other in PAIRS if not cell_set(one) <= cell_set(other)]
SIX_ROWS = [(6,) * 6, (6, 5, 4, 3, 2, 1), (6, 1, 1, 1, 1, 1), (7, 7, 7, 5, 5, 2), (1,) * 6, (4, 4, 3, 3, 2, 2)]


def row_of(share, row):
    return share[row] if row < len(share) else 0


def chains_by_the_ways(one, other):
    """The sum as the document tells it, all ways gone through."""
    n, total = sum(other) - sum(one), 0
    for columns in itertools.permutations(range(len(other))):
        taken = [other[i] - i - row_of(one, j) + j for i, j in enumerate(columns)]
        if min(taken, default=0) >= 0:
            pairs = [upper > lower for upper, lower in itertools.combinations(columns, 2)]
            total += (-1) ** sum(pairs) * math.factorial(n) // math.prod(math.factorial(f) for f in taken)
    return total


class Chains(GridCase):
    def test_gone_through(self):
        for one, other in PAIRS + [((1,), (3, 3, 2)), ((2, 1), (4, 2, 2, 1)), ((), (2, 2, 1, 1, 1))]:
            self.tells(len(chains_gone_through(one, other)), chains_by_square, one, other)

    def test_as_the_ways_tell(self):
        for other in SIX_ROWS:
            for one in [(), (1,), (1, 1), (2, 1), (1,) * 6, (4, 3, 3, 1), other]:
                if cell_set(one) <= cell_set(other):
                    self.tells(chains_by_the_ways(one, other), chains_by_square, one, other)

    def test_as_the_table(self):
        for one in SMALL + SIX_ROWS:
            for other in SIX_ROWS:
                self.tells(chains_between(one, other), chains_by_square, one, other)

    def test_long_rows_of_at_most_six(self):
        for share in [(20,) * 6, (20, 1), (20,), (20, 20, 20), (20, 18, 13, 9, 9, 1), (13,) * 6]:
            self.tells(chains_to(share), chains_by_square, (), share)
            self.tells(1, chains_by_square, share, share)

    def test_not_within(self):
        for one, other in NOT_WITHIN + [((20,), (19,) * 6), ((1,) * 6, (20,) * 5), ((20,) * 20, (1,)), ((2, 2), (20, 1))]:
            self.tells(0, chains_by_square, one, other)

    def test_empty_shares(self):
        self.tells(1, chains_by_square, (), ())
        self.tells(0, chains_by_square, (1,), ())
        self.tells(1, chains_by_square, (), (1,))

    def test_turned_about_and_by_the_others(self):
        for one in SMALL:
            for other in [(6,) * 6, (4, 4, 3, 3, 2, 2), (6, 5, 3, 3)]:
                many = chains_by_square(one, other)
                self.assertEqual(many, chains_by_square(turned_share(one), turned_share(other)))
                self.assertEqual(many, chains_by_square(other_share((6, 6), other), other_share((6, 6), one)))

    def test_somewhat_more_rows(self):
        self.tells(chains_to((7,) * 7), chains_by_square, (), (7,) * 7)
        self.tells(1, chains_by_square, (1,) * 3, (1,) * 8)


class Stacks(GridCase):
    def test_gone_through(self):
        for one, other in PAIRS:
            for k in range(4):
                self.tells(len(stacks_gone_through(one, other, k)), stacks_by_square, one, other, k)

    def test_of_none_and_of_one(self):
        for other in SIX_ROWS:
            for one in [(), (1,), (2, 1), (1,) * 6, (3, 3, 2), other]:
                if cell_set(one) <= cell_set(other):
                    self.tells(1, stacks_by_square, one, other, 0)
                    between = [share for share in all_shares(6, other[0]) if cell_set(one) <= cell_set(share) <= cell_set(other)]
                    self.tells(len(between), stacks_by_square, one, other, 1)

    def test_of_twelve(self):
        self.tells(13, stacks_by_square, (), (1,), 12)
        self.tells(math.comb(18, 6), stacks_by_square, (), (6,), 12)
        self.tells(math.comb(18, 6), stacks_by_square, (), (1,) * 6, 12)
        self.tells(math.comb(32, 20), stacks_by_square, (), (20,), 12)
        self.tells(self.by_the_box(6, 6, 12), stacks_by_square, (), (6,) * 6, 12)

    def by_the_box(self, high, wide, deep):
        """The product over the cells of a box of three ways, as [29] tells."""
        sums = [sum(cell) for cell in itertools.product(range(high), range(wide), range(deep))]
        return math.prod(one + 2 for one in sums) // math.prod(one + 1 for one in sums)

    def test_full_shares_by_the_product_over_the_cells(self):
        for high, wide, deep in itertools.product(range(1, 7), range(1, 7), range(13)):
            self.assertEqual(self.by_the_box(high, wide, deep), stacks_by_square((), (wide,) * high, deep))

    def test_not_within(self):
        for one, other in NOT_WITHIN + [((20,), (19,) * 6), ((1,) * 6, (20,) * 5), ((2, 2), (20, 1))]:
            for k in [0, 1, 2, 12]:
                self.tells(0, stacks_by_square, one, other, k)

    def test_one_is_other(self):
        for share in SMALL + SIX_ROWS:
            for k in range(13):
                self.tells(1, stacks_by_square, share, share, k)

    def test_as_the_sum_over_the_last_share(self):
        for other in [(4, 3, 3, 1), (2, 2, 2, 1, 1, 1), (3, 3, 3, 3)]:
            for one in [(), (1,), (2, 1), (2, 2)]:
                between = [share for share in all_shares(6, 4) if cell_set(one) <= cell_set(share) <= cell_set(other)]
                for k in [1, 2, 5, 12]:
                    expected = sum(stacks_by_square(one, share, k - 1) for share in between)
                    self.tells(expected, stacks_by_square, one, other, k)

    def test_turned_about(self):
        for one in SMALL:
            for other in [(6,) * 6, (4, 4, 3, 3, 2, 2), (6, 5, 3, 3)]:
                for k in [0, 1, 3, 12]:
                    many = stacks_by_square(one, other, k)
                    self.assertEqual(many, stacks_by_square(turned_share(one), turned_share(other), k))

    def test_somewhat_more_rows(self):
        self.tells(self.by_the_box(7, 3, 2), stacks_by_square, (), (3,) * 7, 2)
