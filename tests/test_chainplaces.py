"""Promise [15]: all chains, and each by its number; of [3], that they go there and back."""

import random

from gridshares.chainplaces import all_chains, chain_at, place_of_chain
from gridshares.chains import chains_between, is_chain
from gridshares.errors import NoChain, NoNumber
from tests.common import (
    FAR_NUMBERS, WHATEVER, GridCase, all_shares, cell_set, chains_gone_through, no_such_lists,
)

SMALL = all_shares(3, 3)
PAIRS = [(one, other) for one in SMALL for other in SMALL] + [((), (4, 3)), ((1,), (4, 4)), ((), (2, 2, 2, 1))]
NOT_WITHIN = [(one, other) for one, other in PAIRS if not cell_set(one) <= cell_set(other)]
GREAT = [
    ((), (7,) * 7), ((), (7, 6, 5, 4, 3, 2, 1)), ((3, 1), (7,) * 7), ((1,), (7, 7, 7)), ((2, 2), (2,) * 7),
    ((6, 5, 4, 3, 2, 1), (7,) * 7), ((5, 5), (7, 6, 4, 4, 1)), ((), (7, 1, 1, 1, 1, 1, 1)),
]


class AllChains(GridCase):
    def test_gone_through(self):
        for one, other in PAIRS:
            self.tells(chains_gone_through(one, other), all_chains, one, other)

    def test_rising_each_once_and_all(self):
        for one, other in PAIRS + [((), (4, 3, 1)), ((2, 1), (4, 3, 2)), ((), (6, 3))]:
            chains = self.told(all_chains, one, other)
            self.assertEqual(chains_between(one, other), len(chains))
            self.assertTrue(all(ahead < after for ahead, after in zip(chains, chains[1:])))
            self.assertTrue(all(is_chain(one, other, rows) for rows in chains))

    def test_told(self):
        self.tells([[0, 0, 1], [0, 1, 0]], all_chains, (), (2, 1))
        self.tells([[]], all_chains, (), ())
        self.tells([[]], all_chains, (7,) * 7, (7,) * 7)
        self.tells([], all_chains, (1,), ())
        self.tells([], all_chains, (2,), (1, 1, 1))
        self.tells([[0] * 20], all_chains, (), (20,))
        self.tells([[19] * 20], all_chains, (20,) * 19, (20,) * 20)

    def test_lists_that_are_changed_change_no_later_answer(self):
        chains = all_chains((), (2, 2))
        chains[0].append(7)
        chains.pop()
        self.assertEqual([[0, 0, 1, 1], [0, 1, 0, 1]], all_chains((), (2, 2)))
        chain = chain_at((), (2, 2), 0)
        chain.clear()
        self.assertEqual([0, 0, 1, 1], chain_at((), (2, 2), 0))
        self.assertEqual(0, place_of_chain((), (2, 2), [0, 0, 1, 1]))


class ByNumber(GridCase):
    def test_each_at_its_number_and_back(self):
        for one, other in PAIRS:
            for number, rows in enumerate(chains_gone_through(one, other)):
                self.tells(rows, chain_at, one, other, number)
                self.tells(number, place_of_chain, one, other, rows)

    def test_great_shares(self):
        chance = random.Random(15)
        for one, other in GREAT:
            many = chains_between(one, other)
            ahead = []
            for number in sorted({0, 1, many // 2, many - 1, chance.randrange(many), chance.randrange(many)} - {many}):
                rows = self.told(chain_at, one, other, number)
                self.assertTrue(is_chain(one, other, rows))
                self.assertLess(ahead, rows)
                self.tells(number, place_of_chain, one, other, rows)
                ahead = rows
            for number in [many, many + 1, -1, -many]:
                self.refuses(NoNumber, chain_at, one, other, number)

    def test_first_and_last(self):
        self.tells([row for row in range(7) for column in range(7)], chain_at, (), (7,) * 7, 0)
        self.tells([row for column in range(7) for row in range(7)], chain_at, (), (7,) * 7, chains_between((), (7,) * 7) - 1)
        self.tells([], chain_at, (3, 1), (3, 1), 0)
        self.tells(0, place_of_chain, (3, 1), (3, 1), [])


class NoNumbers(GridCase):
    def test_whatever_it_is(self):
        for one, other in [((), ()), ((), (1,)), ((1,), (2, 2)), ((), (4, 3)), ((2, 1), (2, 1)), ((3,), (2, 2))]:
            for number in WHATEVER + FAR_NUMBERS + [(), (0,), -1]:
                self.refuses(NoNumber, chain_at, one, other, number)

    def test_just_beyond(self):
        for one, other in PAIRS:
            many = len(chains_gone_through(one, other))
            for number in [-1, many, many + 1]:
                self.refuses(NoNumber, chain_at, one, other, number)

    def test_where_one_does_not_lie_within_other(self):
        for one, other in NOT_WITHIN:
            for number in [0, 1, -1, None, True, "0", [0]]:
                self.refuses(NoNumber, chain_at, one, other, number)


class NoChains(GridCase):
    def test_whatever_it_is(self):
        for one, other in [((), (2, 1)), ((1,), (3, 2)), ((), (7,) * 7), ((3,), (2, 2))]:
            for thing in WHATEVER + FAR_NUMBERS + [(), 0, 1]:
                self.refuses(NoChain, place_of_chain, one, other, thing)

    def test_whatever_is_like_one(self):
        for one, other, number in [((), (2, 1), 1), ((1,), (3, 3), 2), ((), (5, 5, 5), 4000), ((1,), (1, 1), 0)]:
            for thing in no_such_lists(chain_at(one, other, number)):
                self.refuses(NoChain, place_of_chain, one, other, thing)

    def test_where_one_does_not_lie_within_other(self):
        for one, other in NOT_WITHIN:
            for thing in [[], [0], [1, 0], None, (), True]:
                self.refuses(NoChain, place_of_chain, one, other, thing)
