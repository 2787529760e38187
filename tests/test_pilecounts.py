"""Promise [29]: how many piles fit a box, by the product and by cells; of [3], that each road tells the same."""

import fractions
import itertools
import time

from gridshares.boxes import full_share
from gridshares.errors import NoBox
from gridshares.pilecounts import piles_by_cells, piles_in
from gridshares.stacks import stacks_between
from tests.common import GridCase
from tests.common_piles import NO_DEEP_BOXES, cells_of_pile, piles_gone_through

TO_THREE = list(itertools.product(range(4), repeat=3))
TO_FOUR = list(itertools.product(range(5), repeat=3))
TO_SIX = list(itertools.product(range(7), repeat=3))


def product_over_cells(box):
    product = fractions.Fraction(1)
    for cell in itertools.product(*[range(side) for side in box]):
        product *= fractions.Fraction(sum(cell) + 2, sum(cell) + 1)
    return product


class Counts(GridCase):
    def test_gone_through(self):
        for box in TO_THREE:
            high, wide, layers = box
            piles = piles_gone_through(*box)
            self.tells(len(piles), piles_in, box)
            cells = [len(cells_of_pile(pile)) for pile in piles]
            self.tells([cells.count(many) for many in range(high * wide * layers + 1)], piles_by_cells, box)

    def test_told(self):
        self.tells(1, piles_in, (0, 0, 0))
        self.tells(2, piles_in, (1, 1, 1))
        self.tells(20, piles_in, (2, 2, 2))
        self.tells(980, piles_in, (3, 3, 3))
        self.tells(232848, piles_in, (4, 4, 4))
        self.tells(1478619421136, piles_in, (6, 6, 6))
        self.tells([1], piles_by_cells, (0, 0, 0))
        self.tells([1, 1], piles_by_cells, (1, 1, 1))
        self.tells([1, 1, 3, 3, 4, 3, 3, 1, 1], piles_by_cells, (2, 2, 2))
        self.assertEqual([1, 1, 3, 6, 13], piles_by_cells((4, 4, 4))[:5])

    def test_sides_of_nothing(self):
        for box in TO_SIX:
            if 0 in box:
                self.tells(1, piles_in, box)
                self.tells([1], piles_by_cells, box)

    def test_the_product(self):
        for box in TO_SIX:
            product = product_over_cells(box)
            self.assertEqual(1, product.denominator)
            self.tells(product.numerator, piles_in, box)

    def test_by_cells_together(self):
        for box in TO_FOUR:
            table = self.told(piles_by_cells, box)
            self.assertEqual(piles_in(box), sum(table))
            self.assertEqual(box[0] * box[1] * box[2] + 1, len(table))

    def test_by_cells_from_behind(self):
        for box in TO_FOUR:
            self.assertEqual(piles_by_cells(box), piles_by_cells(box)[::-1])

    def test_ways_exchanged(self):
        for box in TO_FOUR:
            for turned in itertools.permutations(box):
                self.assertEqual(piles_by_cells(box), piles_by_cells(turned))
        for box in TO_SIX:
            for turned in itertools.permutations(box):
                self.assertEqual(piles_in(box), piles_in(turned))

    def test_as_many_as_stacks(self):
        for high, wide in itertools.product(range(5), repeat=2):
            for layers in range(7):
                self.tells(stacks_between((), full_share((high, wide)), layers), piles_in, (high, wide, layers))

    def test_soon(self):
        begun = time.monotonic()
        self.told(piles_by_cells, (4, 4, 4))
        self.told(piles_in, (6, 6, 6))
        self.assertLess(time.monotonic() - begun, 5)

    def test_no_box_whatever_it_is(self):
        for thing in NO_DEEP_BOXES:
            self.refuses(NoBox, piles_in, thing)
            self.refuses(NoBox, piles_by_cells, thing)

    def test_a_box_with_truths_right_behind_one_that_is_alike(self):
        self.tells(2, piles_in, (1, 1, 1))
        self.refuses(NoBox, piles_in, (1, 1, True))
        self.refuses(NoBox, piles_by_cells, (True, 1, 1))
