"""Promises [4] and [5]: shares, their cells, and shares turned about."""

from gridshares.errors import NoShare
from gridshares.shares import cells_in, cells_of, is_share, share_of, turned_share
from tests.common import FAR_NUMBERS, WHATEVER, GridCase, all_shares, cell_set

SHARES = [
    (), (1,), (20,), (1, 1), (2, 1), (5, 5, 3, 1), (20, 20), (20, 1), (1,) * 20, (20,) * 20, tuple(range(20, 0, -1)),
    (20,) * 19, (20,) * 19 + (1,), (20,) + (1,) * 19,
]
# Neither shares nor rows that make one, be they a tuple or a list.
NO_ROWS = [
    (21,), (1000,), (10 ** 29,), (-1,), (-10 ** 29,), (21, 1), (20, 21), (1, 2), (2, 2, 3), (3, 1, 2), (1, 1, 1, 20),
    (2, -1), (1, 0, -1), (0, 1), (3, 0, 1), (3, 0, 3), (0, 0, 1), (1,) * 21, (20,) * 21, (0,) * 21, (3,) + (0,) * 20,
    tuple(range(20, -1, -1)), (True,), (False,), (1, True), (1, False), (True, 0), (2, True, 1), (1, 0, False),
    ("1",), (1, "1"), ("1", 1), (None,), (1, None), (None, 1), ((1,),), (1, (1,)), ([1],), (1, [1]), ({},), (1, {}),
    ({1: 1},), ((),), ([],), ("",), (2, 1, ()), (2, 1, []), (2, "", 1),
]
NO_LISTS = [thing for thing in WHATEVER if not isinstance(thing, (list, tuple))]


class IsShare(GridCase):
    def test_shares(self):
        for share in SHARES + all_shares(4, 4):
            self.tells(True, is_share, share)

    def test_noughts_are_no_rows_of_a_share(self):
        for thing in [(0,), (0, 0), (1, 0), (3, 2, 0), (20,) * 19 + (0,), (0,) * 20]:
            self.tells(False, is_share, thing)

    def test_a_list_is_no_share(self):
        for share in SHARES:
            self.tells(False, is_share, list(share))

    def test_whatever_it_is(self):
        for thing in NO_ROWS + WHATEVER + FAR_NUMBERS + [0, 1, 2, 20]:
            self.tells(False, is_share, thing)


class ShareOf(GridCase):
    def test_of_tuples_and_lists(self):
        for share in SHARES + all_shares(4, 4):
            self.tells(share, share_of, share)
            self.tells(share, share_of, list(share))

    def test_noughts_at_the_end_are_left_out(self):
        for share in SHARES:
            for noughts in range(21 - len(share)):
                self.tells(share, share_of, share + (0,) * noughts)
                self.tells(share, share_of, list(share) + [0] * noughts)

    def test_noughts_at_the_end_count_among_the_twenty(self):
        for share in SHARES:
            too_many = 21 - len(share)
            self.refuses(NoShare, share_of, share + (0,) * too_many)
            self.refuses(NoShare, share_of, list(share) + [0] * too_many)

    def test_what_makes_none(self):
        for rows in NO_ROWS:
            self.refuses(NoShare, share_of, rows)
            self.refuses(NoShare, share_of, list(rows))

    def test_what_is_no_list_and_no_tuple(self):
        for thing in NO_LISTS + FAR_NUMBERS + [0, 1, 2, 20]:
            self.refuses(NoShare, share_of, thing)

    def test_what_is_made_is_a_share(self):
        for share in SHARES:
            self.assertTrue(is_share(share_of(list(share) + [0] * (20 - len(share)))))


class Cells(GridCase):
    def test_told_cells(self):
        self.tells([], cells_of, ())
        self.tells([(0, 0)], cells_of, (1,))
        self.tells([(0, 0), (0, 1), (0, 2), (1, 0)], cells_of, (3, 1))
        self.tells([(row, column) for row in range(20) for column in range(20)], cells_of, (20,) * 20)

    def test_rising_and_each_once(self):
        for share in SHARES + all_shares(4, 4):
            self.tells(sorted(cell_set(share)), cells_of, share)

    def test_how_many(self):
        self.tells(0, cells_in, ())
        self.tells(4, cells_in, (3, 1))
        self.tells(400, cells_in, (20,) * 20)
        for share in SHARES + all_shares(4, 4):
            self.tells(len(cell_set(share)), cells_in, share)


class Turned(GridCase):
    def test_told_shares(self):
        self.tells((), turned_share, ())
        self.tells((1, 1, 1), turned_share, (3,))
        self.tells((2, 1, 1), turned_share, (3, 1))
        self.tells((20,) * 20, turned_share, (20,) * 20)
        self.tells((20,), turned_share, (1,) * 20)
        self.tells((2,) + (1,) * 19, turned_share, (20, 1))

    def test_each_cell_is_turned(self):
        for share in SHARES + all_shares(5, 4):
            turned = self.told(turned_share, share)
            self.assertTrue(is_share(turned))
            self.assertEqual({(column, row) for row, column in cell_set(share)}, cell_set(turned))

    def test_turned_twice_it_is_the_first(self):
        for share in SHARES + all_shares(5, 5):
            self.tells(share, turned_share, turned_share(share))
