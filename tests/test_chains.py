"""Promises [13] and [14]: chains, turned about, their ways back, and how many there are; of [3], what it says of these."""

import random
import time

from gridshares.boxes import fits_in, other_share
from gridshares.bysquares import chains_by_square
from gridshares.chains import chain_back, chains_between, is_chain, turned_chain
from gridshares.corners import in_rows, out_rows, put_in, taken_out
from gridshares.errors import NoBox, NoChain, NoFit
from gridshares.products import chains_to
from gridshares.shares import turned_share
from tests.common import (
    FAR_NUMBERS, NO_BOXES, WHATEVER, GridCase, all_shares, cell_set, chains_gone_through, no_such_lists,
)

SMALL = all_shares(3, 3)
PAIRS = [(one, other) for one in SMALL for other in SMALL]
WITHIN = [(one, other) for one, other in PAIRS if cell_set(one) <= cell_set(other)]
NOT_WITHIN = [(one, other) for one, other in PAIRS if not cell_set(one) <= cell_set(other)]
GREAT = [
    (), (1,), (7,), (1,) * 7, (7,) * 7, (7, 6, 5, 4, 3, 2, 1), (7, 7, 2), (4, 4, 4, 4), (6,) * 6, (7, 1, 1, 1, 1, 1, 1),
    (5, 3, 3, 1), (3, 2),
]
# None of WHATEVER is a chain of these.
CHOSEN = [((), (2, 1)), ((1,), (3, 2)), ((2, 1), (3, 3, 1)), ((), (2, 2)), ((), (20,)), ((20,) * 19, (20,) * 20)]


def some_chain(one, other, chance):
    """A chain from one to other, made of puts that stay within other, by chance."""
    rows, share = [], one
    while share != other:
        row = chance.choice([row for row in in_rows(share) if cell_set(put_in(share, row)) <= cell_set(other)])
        rows, share = rows + [row], put_in(share, row)
    return rows


class IsChain(GridCase):
    def test_all_chains_of_small_shares(self):
        for one, other in PAIRS:
            for rows in chains_gone_through(one, other):
                self.tells(True, is_chain, one, other, rows)

    def test_chains_of_other_shares_are_none(self):
        for one, other in [((), (2, 1)), ((1,), (2, 2)), ((1, 1), (3, 1, 1)), ((), (3,))]:
            for further in SMALL:
                for rows in chains_gone_through(one, other):
                    self.tells(further == other, is_chain, one, further, rows)

    def test_all_lists_of_few_rows(self):
        lists = [[]]
        for step in range(4):
            lists += [rows + [row] for rows in lists if len(rows) == step for row in range(-1, 4)]
        for one, other in PAIRS[::7]:
            chains = chains_gone_through(one, other)
            for rows in lists:
                self.assertIs(is_chain(one, other, rows), rows in chains)

    def test_whatever_is_none(self):
        for one, other in CHOSEN:
            for thing in WHATEVER + FAR_NUMBERS + [(), 0, 1]:
                self.tells(False, is_chain, one, other, thing)
                self.refuses(NoChain, turned_chain, one, other, thing)
                self.refuses(NoChain, chain_back, (20, 20), one, other, thing)

    def test_whatever_is_like_one(self):
        chance = random.Random(13)
        for one, other in CHOSEN + [((), (1,)), ((1,), (1, 1)), ((), (7,) * 7), ((3, 1), (6, 6, 6))]:
            rows = some_chain(one, other, chance)
            self.tells(True, is_chain, one, other, rows)
            for thing in no_such_lists(rows):
                self.tells(False, is_chain, one, other, thing)
            for thing in no_such_lists(rows)[::5]:
                self.refuses(NoChain, turned_chain, one, other, thing)
                self.refuses(NoChain, chain_back, (20, 20), one, other, thing)

    def test_a_row_too_many_and_one_too_few(self):
        for one, other in WITHIN:
            for rows in chains_gone_through(one, other)[:3]:
                for wrong in [rows + [row] for row in range(-1, 4)] + ([rows[:-1], rows[1:]] if rows else []):
                    self.tells(False, is_chain, one, other, wrong)
                    self.refuses(NoChain, turned_chain, one, other, wrong)
                    self.refuses(NoChain, chain_back, (3, 3), one, other, wrong)

    def test_truths_are_no_rows(self):
        self.tells(True, is_chain, (), (1, 1), [0, 1])
        for rows in [[False, 1], [0, True], [False, True]]:
            self.tells(False, is_chain, (), (1, 1), rows)
            self.refuses(NoChain, turned_chain, (), (1, 1), rows)
            self.refuses(NoChain, chain_back, (2, 2), (), (1, 1), rows)

    def test_where_one_is_other(self):
        for share in SMALL + GREAT + [(20,) * 20]:
            self.tells(True, is_chain, share, share, [])
            self.tells([], turned_chain, share, share, [])
            self.tells([], chain_back, (20, 20), share, share, [])
            for thing in [(), {}, "", None, False, 0, [0], [[]], [None]]:
                self.tells(False, is_chain, share, share, thing)

    def test_where_one_does_not_lie_within_other(self):
        for one, other in NOT_WITHIN:
            for thing in [[], [0], [1], [0, 1], [-1], [1, 0], None, (), "0"]:
                self.tells(False, is_chain, one, other, thing)
                self.refuses(NoChain, turned_chain, one, other, thing)
                self.refuses(NoChain, chain_back, (3, 3), one, other, thing)

    def test_no_row_beyond_twenty(self):
        self.tells(True, is_chain, (19,), (20,), [0])
        self.tells(False, is_chain, (20,), (20,), [0])
        self.tells(True, is_chain, (1,) * 19, (1,) * 20, [19])
        self.tells(False, is_chain, (1,) * 20, (1,) * 20, [20])
        self.tells(True, is_chain, (), (20,) * 20, [row for row in range(20) for column in range(20)])
        self.tells(False, is_chain, (), (20,) * 20, [row for row in range(20) for column in range(21)])


class Turned(GridCase):
    def test_told(self):
        self.tells([0, 1, 0], turned_chain, (), (2, 1), [0, 0, 1])
        self.tells([0, 0, 1], turned_chain, (), (2, 1), [0, 1, 0])
        self.tells([2, 0, 1], turned_chain, (2,), (3, 2), [0, 1, 1])

    def test_a_chain_of_both_turned_about_and_twice_the_first(self):
        for one, other in WITHIN:
            for rows in chains_gone_through(one, other):
                self.check(one, other, rows)

    def check(self, one, other, rows):
        turned = self.told(turned_chain, one, other, rows)
        self.assertTrue(is_chain(turned_share(one), turned_share(other), turned))
        self.tells(rows, turned_chain, turned_share(one), turned_share(other), turned)

    def test_the_columns_at_which_the_cells_come(self):
        chance = random.Random(5)
        for one in GREAT:
            for other in [share for share in GREAT if cell_set(one) <= cell_set(share)]:
                rows = some_chain(one, other, chance)
                cells = cell_set(one)
                for row, column in zip(rows, self.told(turned_chain, one, other, rows)):
                    self.assertTrue((row, column) not in cells)
                    cells.add((row, column))
                self.assertEqual(cell_set(other), cells)
                self.check(one, other, rows)


class Back(GridCase):
    def test_told(self):
        self.tells([0, 1, 1], chain_back, (2, 2), (), (2, 1), [0, 0, 1])
        self.tells([1, 0, 1], chain_back, (2, 2), (), (2, 1), [0, 1, 0])
        self.tells([4, 4], chain_back, (5, 3), (), (2,), [0, 0])

    def test_a_chain_of_the_others_and_twice_the_first(self):
        for one, other in WITHIN:
            for box in [box for box in [(3, 3), (2, 3), (3, 2), (4, 3), (5, 6), (1, 1)] if fits_in(box, other)]:
                for rows in chains_gone_through(one, other)[:6]:
                    back = self.told(chain_back, box, one, other, rows)
                    ends = other_share(box, other), other_share(box, one)
                    self.assertTrue(is_chain(*ends, back))
                    self.tells(rows, chain_back, box, *ends, back)

    def test_great_shares(self):
        chance = random.Random(20)
        for one, other in [((), (7,) * 7), ((3, 1), (6, 6, 6)), ((20,) * 18, (20,) * 20), ((1,), (20, 3, 1))]:
            rows = some_chain(one, other, chance)
            back = self.told(chain_back, (20, 20), one, other, rows)
            ends = other_share((20, 20), other), other_share((20, 20), one)
            self.assertTrue(is_chain(*ends, back))
            self.tells(rows, chain_back, (20, 20), *ends, back)

    def test_no_box_then_no_fit_then_no_chain(self):
        for thing in NO_BOXES:
            self.refuses(NoBox, chain_back, thing, (), (2, 1), [0, 0, 1])
            self.refuses(NoBox, chain_back, thing, (), (20,) * 20, None)
        for box, other in [((1, 2), (2, 1)), ((2, 1), (2, 1)), ((0, 0), (1,)), ((20, 19), (20,)), ((0, 20), (1,))]:
            for one, thing in [((), [0, 0, 1]), ((), None), ((3, 3), []), ((), [0])]:
                self.refuses(NoFit, chain_back, box, one, other, thing)
        # One that doesn't lie within other needn't fit: there is just no chain.
        self.refuses(NoChain, chain_back, (2, 2), (3,), (2, 1), [])


class HowMany(GridCase):
    def test_all_gone_through(self):
        for one, other in PAIRS:
            self.tells(len(chains_gone_through(one, other)), chains_between, one, other)
        for one, other in [((), (4, 3, 2)), ((1,), (4, 4)), ((2, 1), (4, 3, 2, 1)), ((2, 2), (5, 4, 1))]:
            self.tells(len(chains_gone_through(one, other)), chains_between, one, other)

    def test_not_within_and_itself(self):
        for one, other in NOT_WITHIN + [((8,), (7,) * 7), ((1,) * 8, (7,) * 7), ((20,) * 20, ()), ((7, 7), (7, 6, 6))]:
            self.tells(0, chains_between, one, other)
        for share in SMALL + GREAT + [(20,) * 20]:
            self.tells(1, chains_between, share, share)

    def test_the_sum_over_the_out_rows(self):
        for one, other in WITHIN + [(one, other) for one in GREAT[:4] for other in GREAT]:
            if one != other:
                left = [taken_out(other, row) for row in out_rows(other)]
                self.tells(sum(chains_between(one, share) for share in left), chains_between, one, other)

    def test_n_and_one_times(self):
        pairs = PAIRS + [(one, other) for one in GREAT for other in [(6,) * 6, (5, 3, 3, 1), (6, 6, 2), (3, 2)]]
        for one, other in pairs:
            n = sum(other) - sum(one)
            if n >= 0:
                onward = sum(chains_between(one, put_in(other, row)) for row in in_rows(other))
                hither = sum(chains_between(taken_out(one, row), other) for row in out_rows(one))
                self.assertEqual((n + 1) * chains_between(one, other) + hither, onward, (one, other))

    def test_seven_by_seven_soon(self):
        begun = time.monotonic()
        many = self.told(chains_between, (), (7,) * 7)
        self.assertLess(time.monotonic() - begun, 5)
        self.assertEqual(475073684264389879228560, many)
        self.assertEqual(chains_to((7,) * 7), many)

    def test_as_the_product_of_hooks(self):
        for share in SMALL + GREAT + all_shares(2, 7):
            self.tells(chains_to(share), chains_between, (), share)

    def test_turned_about_and_by_the_others(self):
        for one in GREAT:
            for other in GREAT:
                many = chains_between(one, other)
                self.assertEqual(many, chains_between(turned_share(one), turned_share(other)))
                self.assertEqual(many, chains_between(other_share((7, 7), other), other_share((7, 7), one)))

    def test_as_the_square(self):
        for one in SMALL:
            for other in [share for share in GREAT if len(share) <= 6]:
                self.assertEqual(chains_by_square(one, other), chains_between(one, other))

    def test_shares_near_to_one_another_however_great(self):
        self.tells(1, chains_between, (20,) * 19, (20,) * 20)
        self.tells(6, chains_between, (19, 18, 17), (20, 19, 18))
