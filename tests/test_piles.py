"""Promise [27]: piles, boxes of three ways, cells, and the other pile of a box."""

import itertools
import random

from gridshares.errors import NoBox, NoFit, NoPile
from gridshares.piles import is_pile, other_pile, pile_cells, pile_fits, pile_of
from tests.common import FAR_NUMBERS, WHATEVER, GridCase, all_shares, cell_set
from tests.common_piles import GREAT, NO_DEEP_BOXES, NO_PILES, SIX, SMALL, cells_of_pile


def has_no_hole(cells):
    """Whether ahead of each cell, in each of the ways, there is a cell."""
    return all(
        cell[:way] + (cell[way] - 1,) + cell[way + 1:] in cells for cell in cells for way in range(3) if cell[way] > 0
    )


class IsPile(GridCase):
    def test_piles(self):
        for pile in SMALL + GREAT:
            self.tells(True, is_pile, pile)

    def test_whatever_is_none(self):
        for thing in NO_PILES + [thing for thing in WHATEVER if thing not in (((1,), (1,)), ((1, 1),))]:
            self.tells(False, is_pile, thing)

    def test_those_of_whatever_that_are_piles(self):
        self.tells(True, is_pile, ())
        self.tells(True, is_pile, ((1,), (1,)))
        self.tells(True, is_pile, ((1, 1),))

    def test_all_pairs_of_layers(self):
        shares = all_shares(3, 3)
        for one in shares:
            for other in shares:
                expected = one != () and other != () and cell_set(other) <= cell_set(one)
                self.tells(expected, is_pile, (one, other))

    def test_six_and_seven(self):
        for many in range(9):
            self.tells(many <= 6, is_pile, ((1,),) * many)
            self.tells(1 <= many <= 6, is_pile, ((1,) * many,))
            self.tells(1 <= many <= 6, is_pile, ((many,),))

    def test_refused_wherever_a_pile_is_handed_in(self):
        for thing in NO_PILES:
            self.refuses(NoPile, pile_cells, thing)
            self.refuses(NoPile, pile_fits, (6, 6, 6), thing)
            self.refuses(NoPile, other_pile, (6, 6, 6), thing)

    def test_no_pile_ahead_of_no_box_and_no_fit(self):
        for box in NO_DEEP_BOXES + [(0, 0, 0), (1, 1, 1)]:
            for thing in [None, [], ((),), ((7,),), ((1,), (2,)), [(1,)], ((1,),) * 7, True, ((True,),), 0]:
                self.refuses(NoPile, pile_fits, box, thing)
                self.refuses(NoPile, other_pile, box, thing)


class Cells(GridCase):
    def test_rising(self):
        for pile in SMALL + GREAT:
            self.tells(sorted(cells_of_pile(pile)), pile_cells, pile)

    def test_told(self):
        self.tells([], pile_cells, ())
        self.tells([(0, 0, 0)], pile_cells, ((1,),))
        self.tells([(0, 0, 0), (0, 0, 1), (0, 1, 0), (1, 0, 0)], pile_cells, ((2, 1), (1,)))
        self.tells((), pile_of, [])
        self.tells(((2, 1), (1,)), pile_of, [(1, 0, 0), (0, 0, 1), (0, 0, 0), (0, 1, 0)])

    def test_back_in_any_order(self):
        chance = random.Random(27)
        for pile in SMALL + GREAT:
            cells = self.told(pile_cells, pile)
            self.tells(pile, pile_of, cells)
            self.tells(pile, pile_of, cells[::-1])
            chance.shuffle(cells)
            self.tells(pile, pile_of, cells)

    def test_all_sets_of_cells_of_a_small_box(self):
        for high, wide, layers in [(2, 2, 2), (1, 3, 2), (3, 1, 2), (1, 2, 4), (7, 1, 1)]:
            box = list(itertools.product(range(high), range(wide), range(layers)))
            for many in range(len(box) + 1):
                for cells in itertools.combinations(box, many):
                    if has_no_hole(cells) and (6, 0, 0) not in cells:
                        self.assertEqual(set(cells), cells_of_pile(pile_of(list(cells))))
                    else:
                        self.refuses(NoPile, pile_of, list(cells))

    def test_a_cell_twice(self):
        for pile in [pile for pile in SMALL if pile] + GREAT:
            cells = sorted(cells_of_pile(pile))
            for cell in [cells[0], cells[-1], cells[len(cells) // 2]]:
                self.refuses(NoPile, pile_of, cells + [cell])
                self.refuses(NoPile, pile_of, [cell] + cells)
        # Beside a hole, so that there are as many cells as in a pile.
        self.refuses(NoPile, pile_of, [(0, 0, 0), (0, 0, 0)])
        self.refuses(NoPile, pile_of, [(0, 0, 0), (0, 2, 0), (0, 2, 0)])
        self.refuses(NoPile, pile_of, [(0, 0, 0)] * 1000)

    def test_a_hole(self):
        for pile in GREAT:
            cells = sorted(cells_of_pile(pile))
            for at in range(0, len(cells), 5):
                left = cells[:at] + cells[at + 1:]
                if not has_no_hole(set(left)):
                    self.refuses(NoPile, pile_of, left)

    def test_no_list_of_cells(self):
        for thing in WHATEVER + FAR_NUMBERS + [0, 1, (), ((0, 0, 0),), {(0, 0, 0): 1}, "(0, 0, 0)", (0, 0, 0), ((1,),)]:
            if thing != []:
                self.refuses(NoPile, pile_of, thing)

    def test_no_cells(self):
        for wrong in [
            None, True, 0, "000", "", (), (0,), (0, 0), (0, 0, 0, 0), [0, 0, 0], [], {}, (True, 0, 0), (0, True, 0), (0, 0, True),
            (False, 0, 0), (0, False, 0), (0, 0, False), (None, 0, 0), (0, "0", 0), (0, 0, (0,)), (0, 0, [0]), (0, {}, 0),
            (-1, 0, 0), (0, -1, 0), (0, 0, -1), (6, 0, 0), (0, 6, 0), (0, 0, 6), (0, 0, 10 ** 29), (-10 ** 29, 0, 0),
            ((0, 0), 0, 0), ((0, 0, 0),), ((0, 0), 0), ("0", "0", "0"),
        ]:
            self.refuses(NoPile, pile_of, [wrong])
            self.refuses(NoPile, pile_of, [(0, 0, 0), wrong])
            self.refuses(NoPile, pile_of, [(0, 1, 0), wrong, (0, 0, 0)])

    def test_a_row_of_seven(self):
        for way in range(3):
            cells = [tuple(at if part == way else 0 for part in range(3)) for at in range(7)]
            self.assertTrue(is_pile(pile_of(cells[:6])))
            self.refuses(NoPile, pile_of, cells)


class Fits(GridCase):
    def test_all_boxes(self):
        for pile in [(), ((1,),), ((2, 1), (1,)), ((1, 1, 1),), ((3,), (2,), (1,))] + GREAT:
            cells = cells_of_pile(pile)
            for box in itertools.product(range(7), repeat=3):
                expected = all(part < side for cell in cells for part, side in zip(cell, box))
                self.assertIs(expected, pile_fits(box, pile))

    def test_told(self):
        self.tells(True, pile_fits, (0, 0, 0), ())
        self.tells(False, pile_fits, (0, 0, 0), ((1,),))
        self.tells(True, pile_fits, (6, 6, 6), (SIX,) * 6)
        self.tells(False, pile_fits, (6, 6, 5), (SIX,) * 6)
        self.tells(True, pile_fits, (2, 3, 1), ((3, 1),))
        self.tells(False, pile_fits, (3, 2, 1), ((3, 1),))

    def test_no_box(self):
        for box in NO_DEEP_BOXES:
            for pile in [(), ((1,),), (SIX,) * 6]:
                self.refuses(NoBox, pile_fits, box, pile)
                self.refuses(NoBox, other_pile, box, pile)

    def test_a_box_with_truths_right_behind_one_that_is_alike(self):
        self.tells(True, pile_fits, (1, 1, 1), ((1,),))
        self.refuses(NoBox, pile_fits, (1, True, 1), ((1,),))


class Other(GridCase):
    def test_cell_by_cell(self):
        for pile in SMALL + GREAT:
            for box in [(2, 2, 2), (1, 3, 3), (3, 2, 1), (3, 3, 3), (6, 6, 6), (6, 5, 4), (6, 6, 1)]:
                if pile_fits(box, pile):
                    self.check(box, pile)

    def check(self, box, pile):
        high, wide, layers = box
        left = set(itertools.product(range(high), range(wide), range(layers))) - cells_of_pile(pile)
        expected = {(high - 1 - row, wide - 1 - column, layers - 1 - layer) for row, column, layer in left}
        other = self.told(other_pile, box, pile)
        self.assertTrue(is_pile(other))
        self.assertEqual(expected, cells_of_pile(other))
        self.tells(pile, other_pile, box, other)

    def test_the_empty_and_the_full_pile(self):
        for box in itertools.product(range(7), repeat=3):
            high, wide, layers = box
            full = ((wide,) * high,) * layers if high and wide else ()
            self.assertEqual(full, other_pile(box, ()))
            self.assertEqual((), other_pile(box, full))

    def test_told(self):
        self.tells(((2, 2), (2, 1)), other_pile, (2, 2, 2), ((1,),))
        self.tells((), other_pile, (0, 0, 0), ())
        self.tells((), other_pile, (6, 0, 6), ())

    def test_no_fit(self):
        for box, pile in [
            ((0, 0, 0), ((1,),)), ((1, 1, 0), ((1,),)), ((1, 0, 1), ((1,),)), ((0, 1, 1), ((1,),)), ((2, 2, 1), ((1,), (1,))),
            ((6, 6, 5), (SIX,) * 6), ((5, 6, 6), (SIX,)), ((6, 5, 6), (SIX,)), ((3, 2, 1), ((3, 1),)),
        ]:
            self.refuses(NoFit, other_pile, box, pile)
