"""Promise [11]: the hooks of a share."""

from gridshares.errors import NoCell
from gridshares.hooks import hook_of, hooks_of
from gridshares.shares import turned_share
from tests.common import FAR_NUMBERS, WHATEVER, GridCase, all_shares, cell_set

SHARES = all_shares(4, 5) + [
    (20,), (1,) * 20, (20,) * 20, tuple(range(20, 0, -1)), (20,) + (1,) * 19, (20, 7, 7, 3, 1, 1),
]


def hook_gone_through(share, cell):
    cells = cell_set(share)
    right = [one for one in cells if one[0] == cell[0] and one[1] > cell[1]]
    below = [one for one in cells if one[1] == cell[1] and one[0] > cell[0]]
    return len(right) + len(below) + 1


class Hooks(GridCase):
    def test_told_hooks(self):
        self.tells((), hooks_of, ())
        self.tells(((1,),), hooks_of, (1,))
        self.tells(((4, 2, 1), (1,)), hooks_of, (3, 1))
        self.tells(((5, 4, 1), (3, 2), (2, 1)), hooks_of, (3, 2, 2))
        self.tells(tuple(tuple(range(39 - row, 19 - row, -1)) for row in range(20)), hooks_of, (20,) * 20)

    def test_counted_cell_by_cell(self):
        for share in SHARES:
            hooks = tuple(
                tuple(hook_gone_through(share, (row, column)) for column in range(share[row])) for row in range(len(share))
            )
            self.tells(hooks, hooks_of, share)
            for row, column in cell_set(share):
                self.tells(hooks[row][column], hook_of, share, (row, column))

    def test_turned_about_they_are_turned(self):
        for share in SHARES:
            turned = turned_share(share)
            for row, column in cell_set(share):
                self.assertEqual(hook_of(share, (row, column)), hook_of(turned, (column, row)))
                self.assertEqual(hooks_of(share)[row][column], hooks_of(turned)[column][row])


class NoCells(GridCase):
    def test_whatever_is_no_cell(self):
        for share in [(), (1,), (3, 1), (20,) * 20, (2, 2)]:
            for thing in WHATEVER + FAR_NUMBERS + [0, 1, (), (0,), (0, 0, 0), [0, 0], [0], {0: 0}, ((0, 0),)]:
                self.refuses(NoCell, hook_of, share, thing)

    def test_just_beyond(self):
        for share in SHARES:
            for row in range(-2, len(share) + 2):
                length = share[row] if 0 <= row < len(share) else 0
                for column in {-length - 1, -length, -2, -1, length, length + 1, 20, 10 ** 29, -10 ** 29} - {0}:
                    self.refuses(NoCell, hook_of, share, (row, column))
            for row in [-1, -2, -len(share) - 1, len(share), len(share) + 1, 10 ** 29, -10 ** 29]:
                self.refuses(NoCell, hook_of, share, (row, 0))

    def test_truths_texts_and_lists_within(self):
        for thing in [
            (True, 0), (0, True), (False, 0), (0, False), (False, False), ("0", 0), (0, "0"), (None, 0), (0, None),
            ([0], 0), (0, [0]), ((0,), 0), (0, (0,)), ({}, 0), (0, {}),
        ]:
            self.refuses(NoCell, hook_of, (3, 2, 1), thing)
