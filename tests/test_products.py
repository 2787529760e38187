"""Promise [12]: how many chains and walks lead from the empty share to a share, by products."""

import math

from gridshares.products import chains_to, walks_to
from gridshares.shares import turned_share
from tests.common import GridCase, all_shares

SMALL = all_shares(4, 4) + [(7,), (1,) * 7, (6, 2), (5, 3, 1)]


def puts(share):
    """All shares of a cell more, however great."""
    lengths = list(share) + [0]
    for row in range(len(lengths)):
        if row == 0 or lengths[row] < lengths[row - 1]:
            more = lengths[:row] + [lengths[row] + 1] + lengths[row + 1:]
            yield tuple(length for length in more if length)


def takes(share):
    """All shares of a cell less."""
    for row in range(len(share)):
        if row == len(share) - 1 or share[row] > share[row + 1]:
            less = share[:row] + (share[row] - 1,) + share[row + 1:]
            yield tuple(length for length in less if length)


def chains_gone_through(share):
    return 1 if share == () else sum(chains_gone_through(less) for less in takes(share))


def walks_gone_through(k):
    """A dict of how many walks of k steps from the empty share end at each share, each walk gone through."""
    ends = [()]
    for step in range(k):
        ends = [left for share in ends for left in [*puts(share), *takes(share)]]
    return {share: ends.count(share) for share in set(ends)}


def walks_reckoned(k):
    """The same, share by share."""
    ends = {(): 1}
    for step in range(k):
        following = {}
        for share, many in ends.items():
            for left in [*puts(share), *takes(share)]:
                following[left] = following.get(left, 0) + many
        ends = following
    return ends


class Chains(GridCase):
    def test_small_shares(self):
        for share in SMALL:
            if sum(share) <= 10:
                self.tells(chains_gone_through(share), chains_to, share)

    def test_told_chains(self):
        self.tells(1, chains_to, ())
        self.tells(1, chains_to, (20,))
        self.tells(1, chains_to, (1,) * 20)
        self.tells(2, chains_to, (2, 1))
        self.tells(16, chains_to, (3, 2, 1))
        self.tells(24024, chains_to, (4, 4, 4, 4))
        self.tells(math.comb(40, 20) // 21, chains_to, (20, 20))

    def test_twenty_rows_of_twenty(self):
        product = 1
        for row in range(20):
            for column in range(20):
                product *= row + column + 1
        self.assertEqual(0, math.factorial(400) % product)
        self.tells(math.factorial(400) // product, chains_to, (20,) * 20)

    def test_turned_about_as_many(self):
        for share in SMALL + [(20, 20, 7), (20,) * 9 + (4,) * 5]:
            self.tells(chains_to(share), chains_to, turned_share(share))

    def test_the_sum_over_the_shares_of_a_cell_less(self):
        for share in [(20,) * 20, (20, 13, 13, 2), tuple(range(20, 0, -1)), (9, 9, 9, 1)]:
            self.tells(sum(chains_to(less) for less in takes(share)), chains_to, share)

    def test_squares_of_all_chains_of_n_cells(self):
        for n in range(9):
            shares = [share for share in all_shares(n, n) if sum(share) == n]
            self.assertEqual(math.factorial(n), sum(chains_to(share) ** 2 for share in shares))


class Walks(GridCase):
    def test_gone_through(self):
        for k in range(8):
            ends = walks_gone_through(k)
            for share in SMALL + list(ends):
                self.tells(ends.get(share, 0), walks_to, share, k)

    def test_reckoned_share_by_share(self):
        for k in range(8, 15):
            ends = walks_reckoned(k)
            for share in SMALL + [(14,), (1,) * 14, (13, 1), (7, 7)]:
                self.tells(ends.get(share, 0), walks_to, share, k)

    def test_fewer_steps_than_cells(self):
        for share in SMALL:
            for k in range(sum(share)):
                self.tells(0, walks_to, share, k)
        for k in range(61):
            self.tells(0, walks_to, (20,) * 20, k)
        for k in [-1, -2, -4]:
            self.tells(0, walks_to, (), k)

    def test_odd(self):
        for share in SMALL:
            for k in range(sum(share) + 1, 61, 2):
                self.tells(0, walks_to, share, k)

    def test_as_many_steps_as_cells(self):
        for share in SMALL + [(20, 20, 20), (12, 12, 12, 12, 12), (20, 15, 11, 8, 5, 1)]:
            self.tells(chains_to(share), walks_to, share, sum(share))

    def test_sixty_steps(self):
        self.tells(math.prod(range(1, 60, 2)), walks_to, (), 60)
        self.tells(59 * math.prod(range(1, 58, 2)), walks_to, (1,), 59)
        self.tells(math.comb(60, 4) * math.prod(range(1, 56, 2)) * 3, walks_to, (3, 1), 60)
        self.tells(chains_to((20, 20, 20)), walks_to, (20, 20, 20), 60)
        self.tells(1, walks_to, (), 0)

    def test_beyond_sixty(self):
        self.tells(math.prod(range(1, 64, 2)), walks_to, (), 64)
        self.tells(chains_to((20,) * 20), walks_to, (20,) * 20, 400)
