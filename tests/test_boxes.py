"""Promise [6]: boxes, what fits them, the full share and the other one."""

from gridshares.boxes import fits_in, full_share, is_box, other_share
from gridshares.errors import NoBox, NoFit
from gridshares.shares import cells_in, is_share
from tests.common import BOXES, GREAT_BOXES, NO_BOXES, GridCase, all_shares, cell_set

ALL_BOXES = [(high, wide) for high in range(21) for wide in range(21)]


def other_cells(box, share):
    high, wide = box
    full = {(row, column) for row in range(high) for column in range(wide)}
    return {(high - 1 - row, wide - 1 - column) for row, column in full - cell_set(share)}


class IsBox(GridCase):
    def test_boxes(self):
        for box in ALL_BOXES:
            self.tells(True, is_box, box)

    def test_whatever_it_is(self):
        for thing in NO_BOXES + [[high, wide] for high, wide in BOXES]:
            self.tells(False, is_box, thing)


class NoBoxes(GridCase):
    def test_refused_by_every_function(self):
        for thing in NO_BOXES:
            self.refuses(NoBox, full_share, thing)
            for share in [(), (1,), (20,) * 20]:
                self.refuses(NoBox, fits_in, thing, share)
                self.refuses(NoBox, other_share, thing, share)

    def test_refused_right_behind_a_box_that_is_alike(self):
        for box, thing in [((1, 1), (True, 1)), ((0, 1), (0, True)), ((0, 0), (False, 0)), ((1, 0), (1, False))]:
            full_share(box), fits_in(box, ()), other_share(box, ())
            self.refuses(NoBox, full_share, thing)
            self.refuses(NoBox, fits_in, thing, ())
            self.refuses(NoBox, other_share, thing, ())
            self.tells(False, is_box, thing)


class Fits(GridCase):
    def test_small_boxes(self):
        for box in BOXES[:40]:
            fitting = set(all_shares(*box))
            for share in all_shares(5, 5):
                self.tells(share in fitting, fits_in, box, share)

    def test_just_fits_a_row_too_high_a_cell_too_wide(self):
        for high, wide in ALL_BOXES:
            if not high or not wide:
                continue
            self.tells(True, fits_in, (high, wide), (wide,) * high)
            self.tells(True, fits_in, (high, wide), (wide,))
            self.tells(True, fits_in, (high, wide), (1,) * high)
            self.tells(False, fits_in, (high, wide), (1,) * (high + 1))
            self.tells(False, fits_in, (high, wide), (wide + 1,))
            self.tells(False, fits_in, (high, wide), (wide + 1,) + (wide,) * (high - 1))

    def test_boxes_without_cells_hold_the_empty_share_alone(self):
        for box in [(0, 0), (0, 5), (5, 0), (0, 20), (20, 0)]:
            self.tells(True, fits_in, box, ())
            self.tells(False, fits_in, box, (1,))


class FullShare(GridCase):
    def test_boxes(self):
        for high, wide in ALL_BOXES:
            self.tells((wide,) * high if wide else (), full_share, (high, wide))


class OtherShare(GridCase):
    def test_told_shares(self):
        self.tells((), other_share, (0, 0), ())
        self.tells((), other_share, (0, 20), ())
        self.tells((), other_share, (20, 0), ())
        self.tells((3, 2), other_share, (3, 3), (3, 1))
        self.tells((4, 4, 3), other_share, (3, 4), (1,))
        self.tells((20,) * 20, other_share, (20, 20), ())
        self.tells((), other_share, (20, 20), (20,) * 20)

    def test_cell_by_cell_and_back(self):
        for box in BOXES[:40]:
            for share in all_shares(*box):
                other = self.told(other_share, box, share)
                self.assertTrue(is_share(other))
                self.assertEqual(other_cells(box, share), cell_set(other))
                self.tells(share, other_share, box, other)

    def test_great_boxes(self):
        for high, wide in GREAT_BOXES:
            for share in [(), (wide,) * high if wide else (), tuple(range(min(high, wide), 0, -1))]:
                other = self.told(other_share, (high, wide), share)
                self.assertEqual(other_cells((high, wide), share), cell_set(other))
                self.assertEqual(high * wide, cells_in(share) + cells_in(other))
                self.tells(share, other_share, (high, wide), other)

    def test_what_does_not_fit(self):
        for box, share in [
            ((0, 0), (1,)), ((0, 5), (1,)), ((5, 0), (1,)), ((2, 3), (4,)), ((2, 3), (4, 4)), ((2, 3), (1, 1, 1)),
            ((2, 3), (3, 3, 1)), ((20, 19), (20,)), ((19, 20), (1,) * 20), ((19, 19), (20,) * 20),
        ]:
            self.refuses(NoFit, other_share, box, share)
