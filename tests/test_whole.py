"""Promise [3], over the whole program: each road tells the same, all is numbered, there and back, and turns along."""

import itertools
import random

from gridshares.boxes import full_share, other_share
from gridshares.bysquares import chains_by_square, stacks_by_square
from gridshares.chainplaces import all_chains, chain_at, place_of_chain
from gridshares.chains import chain_back, chains_between, is_chain, turned_chain
from gridshares.countpapers import chains_paper, lets_chains
from gridshares.counts import all_in, cell_table
from gridshares.fillings import chain_of, filling_of, is_filling, turned_filling
from gridshares.fillplaces import filling_at, place_of_filling
from gridshares.hooks import hooks_of
from gridshares.keeper import Keeper
from gridshares.listed import shares_in, shares_of
from gridshares.orders import joined_shares, lies_within, met_shares
from gridshares.pilecounts import piles_by_cells, piles_in
from gridshares.pilekeeper import PileKeeper
from gridshares.pileplaces import pile_at, place_of_pile
from gridshares.piles import other_pile, pile_cells, pile_of
from gridshares.pileways import turned_pile
from gridshares.places import place_of, share_at
from gridshares.products import chains_to, walks_to
from gridshares.shares import turned_share
from gridshares.stackpapers import lets_stacks, stacks_paper
from gridshares.stackplaces import place_of_stack, stack_at
from gridshares.stacks import is_stack, stacks_between
from gridshares.walkpapers import lets_walks, walks_paper
from gridshares.walkplaces import place_of_walk, walk_at
from gridshares.walks import is_walk, walk_back, walk_of_others, walk_shares, walks_between
from tests.common import GridCase

TO_FOUR = list(itertools.product(range(5), repeat=2))
CUBES = list(itertools.product(range(5), repeat=3))


def some_of(things, many):
    return things[::len(things) // many + 1] + things[-1:]


def some_pairs(box, many):
    """Some pairs of shares of the box, one within other."""
    shares = some_of(shares_in(box), many)
    return [(one, other) for one in shares for other in shares if lies_within(one, other)]


class Shares(GridCase):
    def test_told_each_once_and_counted(self):
        for box in itertools.product(range(7), repeat=2):
            shares, table = shares_in(box), cell_table(box)
            self.assertEqual(sorted(set(shares)), shares)
            self.assertEqual(all_in(box), len(shares))
            self.assertEqual(table, [len(shares_of(box, n)) for n in range(box[0] * box[1] + 1)])
            self.assertEqual(table, table[::-1])

    def test_there_and_back(self):
        for box in TO_FOUR + [(6, 6)]:
            for n in range(box[0] * box[1] + 1):
                for number, share in enumerate(shares_of(box, n)):
                    self.assertEqual(share, share_at(box, n, number))
                    self.assertEqual(number, place_of(box, share))

    def test_joined_is_the_least_and_met_the_greatest(self):
        shares = shares_in((3, 3))
        for one, other in itertools.product(shares, repeat=2):
            joined, met = joined_shares(one, other), met_shares(one, other)
            over = [share for share in shares if lies_within(one, share) and lies_within(other, share)]
            under = [share for share in shares if lies_within(share, one) and lies_within(share, other)]
            self.assertTrue(joined in over and all(lies_within(joined, share) for share in over))
            self.assertTrue(met in under and all(lies_within(share, met) for share in under))


class Roads(GridCase):
    def test_chains(self):
        for box in [(2, 2), (3, 4), (5, 5), (6, 6)]:
            for one, other in some_pairs(box, 9):
                many = chains_between(one, other)
                self.assertEqual(many, chains_by_square(one, other))
                self.assertEqual(many, chains_between(turned_share(one), turned_share(other)))
                self.assertEqual(many, chains_between(other_share(box, other), other_share(box, one)))
                if one == ():
                    self.assertEqual(many, chains_to(other))
                if many <= 300:
                    self.assertEqual(many, len(all_chains(one, other)))

    def test_walks(self):
        for k in range(6):
            for other in shares_in((5, 5))[::3]:
                self.assertEqual(walks_to(other, k), walks_between((5, 5), (), other, k))
        for box in [(2, 3), (4, 4), (5, 3)]:
            for one, other in some_pairs(box, 6):
                for k in [0, 3, 8, 15, 16]:
                    many = walks_between(box, one, other, k)
                    self.assertEqual(many, walks_between(box, other, one, k))
                    self.assertEqual(many, walks_between(box[::-1], turned_share(one), turned_share(other), k))
                    self.assertEqual(many, walks_between(box, other_share(box, one), other_share(box, other), k))

    def test_stacks(self):
        for box in [(2, 2), (3, 4), (4, 3), (4, 4)]:
            for one, other in some_pairs(box, 8):
                for k in range(7):
                    many = stacks_between(one, other, k)
                    self.assertEqual(many, stacks_by_square(one, other, k))
                    self.assertEqual(many, stacks_between(turned_share(one), turned_share(other), k))

    def test_piles(self):
        for box in CUBES:
            high, wide, layers = box
            full = full_share((high, wide))
            many = piles_in(box)
            self.assertEqual(many, stacks_between((), full, layers))
            self.assertEqual(many, stacks_by_square((), full, layers))
            self.assertEqual(many, sum(piles_by_cells(box)))
            self.assertEqual(many - 1, place_of_pile(box, other_pile(box, ())))

    def test_papers(self):
        for one, other in some_pairs((4, 4), 6):
            self.assertTrue(lets_chains(one, other, chains_paper(one, other), chains_by_square(one, other)))
            for k in range(5):
                self.assertTrue(lets_stacks(one, other, k, stacks_paper(one, other, k), stacks_by_square(one, other, k)))
            for k in [0, 4, 8]:
                self.assertTrue(lets_walks((4, 4), one, other, k, walks_paper((4, 4), one, k), walks_between((4, 4), one, other, k)))

    def test_papers_of_chains_and_walks_by_products(self):
        for other in shares_in((4, 4))[::3]:
            self.assertTrue(lets_chains((), other, chains_paper((), other), chains_to(other)))
            for k in range(5):
                self.assertTrue(lets_walks((4, 4), (), other, k, walks_paper((4, 4), (), k), walks_to(other, k)))

    def test_a_paper_of_piles(self):
        # A paper of stacks to the full share shows how many piles there are, too.
        for high, wide in TO_FOUR:
            full = full_share((high, wide))
            for layers in range(5):
                self.assertTrue(lets_stacks((), full, layers, stacks_paper((), full, layers), piles_in((high, wide, layers))))


class Numbered(GridCase):
    def setUp(self):
        self.chance = random.Random(3)

    def numbers(self, many):
        return sorted({0, many // 2, many - 1} | {self.chance.randrange(many) for time in range(5)}) if many else []

    def test_chains_and_fillings(self):
        for one, other in some_pairs((6, 6), 7):
            for number in self.numbers(chains_between(one, other)):
                rows = chain_at(one, other, number)
                self.assertTrue(is_chain(one, other, rows))
                self.assertEqual(number, place_of_chain(one, other, rows))
                filling = filling_at(one, other, number)
                self.assertTrue(is_filling(one, other, filling))
                self.assertEqual(number, place_of_filling(one, other, filling))
                self.assertEqual(rows, chain_of(one, other, filling_of(one, other, rows)))

    def test_walks(self):
        for box in [(3, 3), (5, 4)]:
            for one, other in some_pairs(box, 5):
                for k in [0, 5, 6, 16]:
                    for number in self.numbers(walks_between(box, one, other, k)):
                        steps = walk_at(box, one, other, k, number)
                        self.assertTrue(is_walk(box, one, other, steps))
                        self.assertEqual(number, place_of_walk(box, one, other, steps))

    def test_stacks(self):
        for one, other in some_pairs((4, 4), 6):
            for k in [0, 1, 3, 6]:
                for number in self.numbers(stacks_between(one, other, k)):
                    stack = stack_at(one, other, k, number)
                    self.assertTrue(is_stack(one, other, k, stack))
                    self.assertEqual(number, place_of_stack(one, other, stack))

    def test_piles(self):
        for box in CUBES[::3] + [(4, 4, 4)]:
            for number in self.numbers(piles_in(box)):
                pile = pile_at(box, number)
                self.assertEqual(number, place_of_pile(box, pile))
                self.assertEqual(pile, pile_of(pile_cells(pile)))


class TurnedAlong(GridCase):
    def test_hooks(self):
        for share in shares_in((5, 5))[::3]:
            hooks = hooks_of(share)
            turned = tuple(tuple(hooks[row][column] for row in range(high)) for column, high in enumerate(turned_share(share)))
            self.assertEqual(turned, hooks_of(turned_share(share)))

    def test_chains_and_fillings(self):
        for one, other in some_pairs((5, 5), 7):
            rows = chain_at(one, other, chains_between(one, other) // 2)
            ends = turned_share(one), turned_share(other)
            turned = turned_chain(one, other, rows)
            self.assertTrue(is_chain(*ends, turned))
            self.assertEqual(rows, turned_chain(*ends, turned))
            self.assertEqual(filling_of(*ends, turned), turned_filling(one, other, filling_of(one, other, rows)))
            back = chain_back((5, 5), one, other, rows)
            self.assertTrue(is_chain(other_share((5, 5), other), other_share((5, 5), one), back))

    def test_walks(self):
        for one, other in some_pairs((4, 3), 6):
            k = sum(other) - sum(one) + 4
            steps = walk_at((4, 3), one, other, k, walks_between((4, 3), one, other, k) // 2)
            self.assertTrue(is_walk((4, 3), other, one, walk_back((4, 3), one, other, steps)))
            ends = other_share((4, 3), one), other_share((4, 3), other)
            shares = walk_shares((4, 3), *ends, walk_of_others((4, 3), one, other, steps))
            self.assertEqual([other_share((4, 3), share) for share in walk_shares((4, 3), one, other, steps)], shares)

    def test_piles(self):
        for box in [(2, 3, 4), (4, 4, 4), (1, 4, 2)]:
            for number in some_of(list(range(piles_in(box))), 20):
                pile = pile_at(box, number)
                for ways in itertools.permutations(range(3)):
                    turned_box = tuple(box[way] for way in ways)
                    turned = turned_pile(pile, ways)
                    self.assertEqual(len(pile_cells(pile)), len(pile_cells(turned)))
                    self.assertEqual(turned_pile(other_pile(box, pile), ways), other_pile(turned_box, turned))
                    self.assertLess(place_of_pile(turned_box, turned), piles_in(box))


class Kept(GridCase):
    def test_a_kept_share_is_what_its_walk_makes_it(self):
        for one, other in some_pairs((4, 4), 6):
            steps = walk_at((4, 4), one, other, 16 if sum(one + other) % 2 == 0 else 15, 0)
            shares, keeper = walk_shares((4, 4), one, other, steps), Keeper((4, 4), one)
            for (word, row), share in zip(steps, shares[1:]):
                keeper.put(row) if word == "put" else keeper.take(row)
                self.assertEqual(share, keeper.share())
                self.assertEqual(chains_between((), share), keeper.chains_here())
                self.assertEqual(chains_between(share, full_share((4, 4))), keeper.chains_on())
            self.assertEqual(steps, keeper.trail())
            for share in shares[-2::-1]:
                keeper.back()
                self.assertEqual(share, keeper.share())
            for share in shares[1:]:
                keeper.again()
                self.assertEqual(share, keeper.share())

    def test_a_kept_pile_is_what_its_cells_make_it(self):
        for number in range(0, 980, 49):
            pile = pile_at((3, 3, 3), number)
            cells = sorted(pile_cells(pile), key=lambda cell: (cell[2], cell[0], cell[1]))
            keeper = PileKeeper((3, 3, 3), ())
            told = [keeper.put(layer, row) for row, column, layer in cells]
            self.assertEqual(list(range(1, len(cells) + 1)), told)
            self.assertEqual(pile, keeper.pile())
            told = [keeper.take(layer, row) for row, column, layer in reversed(cells)]
            self.assertEqual(list(range(len(cells)))[::-1], told)
            self.assertEqual((), keeper.pile())
