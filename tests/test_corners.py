"""Promise [10]: the rows at which a cell may be put in or taken out."""

from gridshares.boxes import fits_in, full_share
from gridshares.corners import in_rows, in_rows_of, out_rows, put_in, taken_out
from gridshares.errors import NoBox, NoFit, NoRow
from gridshares.shares import is_share, share_of
from tests.common import BOXES, FAR_NUMBERS, NO_BOXES, WHATEVER, GridCase, all_shares

STAIRS = tuple(range(20, 0, -1))
SHARES = all_shares(4, 4) + [
    (20,), (19,), (20, 20), (20, 19), (1,) * 19, (1,) * 20, (2,) * 20, (20,) * 19, (20,) * 20, (19,) * 20, STAIRS,
    STAIRS[1:], (20,) * 19 + (19,), (20,) + (1,) * 19, (20, 7, 7, 7, 3, 3, 1, 1), (5, 4, 3, 2, 1),
]
NO_ROWS = WHATEVER + FAR_NUMBERS + [-1, -2, 20, 21, 22, 100, (), (0,), (1,), [0], {0: 0}]


def with_row(share, row, more):
    """The lengths with some cells more at a row, or None where that row is beyond."""
    lengths = list(share) + [0]
    if not 0 <= row < len(lengths):
        return None
    lengths[row] += more
    return tuple(lengths[:-1] if lengths[-1] == 0 else lengths)


def grown(share, row):
    """The share with a cell more at the row, None where it leaves none."""
    rows = with_row(share, row, 1)
    return rows if rows is not None and is_share(rows) else None


def shrunk(share, row):
    """The share with a cell less at the row, None where it leaves none."""
    if not 0 <= row < len(share):
        return None
    rows = with_row(share, row, -1)
    if rows[-1] == 0:
        rows = rows[:-1]
    return rows if is_share(rows) else None


class Rows(GridCase):
    def test_told_in_rows(self):
        self.tells([0], in_rows, ())
        self.tells([0, 1], in_rows, (1,))
        self.tells([0, 2], in_rows, (3, 3))
        self.tells([0, 1, 2], in_rows, (3, 1))
        self.tells([0, 1, 4], in_rows, (5, 2, 2, 2))
        self.tells([1], in_rows, (20,))
        self.tells([2], in_rows, (20, 20))
        self.tells([0], in_rows, (1,) * 20)
        self.tells([0], in_rows, (19,) * 20)
        self.tells([0, 19], in_rows, (1,) * 19)
        self.tells([19], in_rows, (20,) * 19)
        self.tells([], in_rows, (20,) * 20)
        self.tells(list(range(1, 20)), in_rows, STAIRS)
        self.tells(list(range(20)), in_rows, STAIRS[1:])

    def test_told_out_rows(self):
        self.tells([], out_rows, ())
        self.tells([0], out_rows, (1,))
        self.tells([1], out_rows, (3, 3))
        self.tells([0, 1], out_rows, (3, 1))
        self.tells([0, 3], out_rows, (5, 2, 2, 2))
        self.tells([19], out_rows, (20,) * 20)
        self.tells([19], out_rows, (1,) * 20)
        self.tells(list(range(20)), out_rows, STAIRS)

    def test_rows_held_against_what_is_left(self):
        for share in SHARES:
            self.tells([row for row in range(23) if grown(share, row)], in_rows, share)
            self.tells([row for row in range(23) if shrunk(share, row) is not None], out_rows, share)


class RowsOfABox(GridCase):
    def test_rows_behind_which_it_fits(self):
        for box in BOXES[:40] + [(20, 20), (19, 20), (20, 19), (20, 4), (4, 20)]:
            for share in SHARES:
                if fits_in(box, share):
                    rows = [row for row in range(23) if grown(share, row) and fits_in(box, grown(share, row))]
                    self.tells(rows, in_rows_of, box, share)
                else:
                    self.refuses(NoFit, in_rows_of, box, share)

    def test_told_rows(self):
        self.tells([], in_rows_of, (0, 0), ())
        self.tells([], in_rows_of, (0, 5), ())
        self.tells([], in_rows_of, (5, 0), ())
        self.tells([0], in_rows_of, (1, 1), ())
        self.tells([1], in_rows_of, (2, 3), (3, 1))
        self.tells([0, 1], in_rows_of, (2, 4), (3, 1))
        self.tells([1, 2], in_rows_of, (3, 3), (3, 1))

    def test_none_where_it_is_the_full_share(self):
        for box in BOXES + [(20, 20), (1, 20), (20, 1)]:
            self.tells([], in_rows_of, box, full_share(box))

    def test_in_the_greatest_box_they_are_the_in_rows(self):
        for share in SHARES:
            self.tells(in_rows(share), in_rows_of, (20, 20), share)

    def test_no_box_then_no_fit(self):
        for thing in NO_BOXES:
            for share in [(), (1,), (20,) * 20]:
                self.refuses(NoBox, in_rows_of, thing, share)
        for box, share in [((2, 3), (4,)), ((2, 3), (1, 1, 1)), ((0, 0), (1,)), ((19, 19), (20,) * 20)]:
            self.refuses(NoFit, in_rows_of, box, share)


class PutAndTake(GridCase):
    def test_each_row(self):
        for share in SHARES:
            for row in range(-3, 24):
                self.row_is_put_in_and_taken_out(share, row)

    def row_is_put_in_and_taken_out(self, share, row):
        if grown(share, row):
            self.tells(grown(share, row), put_in, share, row)
            self.tells(share, taken_out, put_in(share, row), row)
        else:
            self.refuses(NoRow, put_in, share, row)
        if shrunk(share, row) is not None:
            self.tells(shrunk(share, row), taken_out, share, row)
            self.tells(share, put_in, taken_out(share, row), row)
        else:
            self.refuses(NoRow, taken_out, share, row)

    def test_told_shares(self):
        self.tells((1,), put_in, (), 0)
        self.tells((3, 2), put_in, (3, 1), 1)
        self.tells((3, 1, 1), put_in, (3, 1), 2)
        self.tells((3,), taken_out, (3, 1), 1)
        self.tells((), taken_out, (1,), 0)
        self.tells((2, 1), taken_out, (3, 1), 0)

    def test_what_is_left_is_a_share(self):
        for share in SHARES:
            for left in [put_in(share, row) for row in in_rows(share)] + [taken_out(share, row) for row in out_rows(share)]:
                self.assertEqual(left, share_of(left))

    def test_whatever_is_no_such_row(self):
        for share in [(), (1,), (2, 1), (3, 1, 1), (20,), (20,) * 20, (1,) * 20, STAIRS]:
            for thing in NO_ROWS:
                self.refuses(NoRow, put_in, share, thing)
                self.refuses(NoRow, taken_out, share, thing)

    def test_a_truth_is_no_row_right_behind_a_row(self):
        self.tells((3, 1), put_in, (2, 1), 0)
        self.refuses(NoRow, put_in, (2, 1), False)
        self.tells((2, 2), put_in, (2, 1), 1)
        self.refuses(NoRow, put_in, (2, 1), True)
        self.tells((2,), taken_out, (2, 1), 1)
        self.refuses(NoRow, taken_out, (2, 1), True)
        self.refuses(NoRow, taken_out, (2, 1), False)
