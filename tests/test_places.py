"""Promise [8], what it says of numbers: shares of so many cells by their numbers."""

import random

from gridshares.boxes import fits_in
from gridshares.counts import cell_table
from gridshares.errors import NoBox, NoFit, NoNumber
from gridshares.places import place_of, share_at
from gridshares.shares import is_share
from tests.common import BOXES, FAR_NUMBERS, GREAT_BOXES, NO_BOXES, WHATEVER, GridCase, all_shares


def numbers_to_try(many, chance):
    """The first and last numbers, and some between."""
    return sorted({0, many - 1, many // 2} | {chance.randrange(many) for time in range(3)})


class SmallBoxes(GridCase):
    def test_in_the_order_of_tuples(self):
        for high, wide in BOXES:
            shares = all_shares(high, wide)
            for n in range(high * wide + 1):
                for number, share in enumerate([share for share in shares if sum(share) == n]):
                    self.tells(share, share_at, (high, wide), n, number)
                    self.tells(number, place_of, (high, wide), share)

    def test_no_number_below_nought_and_beyond(self):
        for high, wide in BOXES:
            for n, many in enumerate(cell_table((high, wide))):
                for number in [-1, -many, many, many + 1] + FAR_NUMBERS:
                    self.refuses(NoNumber, share_at, (high, wide), n, number)


class GreatBoxes(GridCase):
    def test_there_and_back(self):
        chance = random.Random(8)
        for high, wide in GREAT_BOXES:
            for n in sorted({chance.randrange(high * wide + 1) for time in range(12)} | {0, high * wide}):
                ahead = None
                many = cell_table((high, wide))[n]
                for number in numbers_to_try(many, chance):
                    share = self.told(share_at, (high, wide), n, number)
                    self.assertTrue(is_share(share) and fits_in((high, wide), share))
                    self.assertEqual(n, sum(share))
                    self.tells(number, place_of, (high, wide), share)
                    self.assertTrue(ahead is None or ahead < share)
                    ahead = share
                self.refuses(NoNumber, share_at, (high, wide), n, many)

    def test_first_and_last_of_twenty_by_twenty(self):
        self.tells((1,) * 20, share_at, (20, 20), 20, 0)
        self.tells((20,), share_at, (20, 20), 20, 626)
        self.tells((2,) + (1,) * 19, share_at, (20, 20), 21, 0)
        self.tells((), share_at, (20, 20), 0, 0)
        self.tells((20,) * 20, share_at, (20, 20), 400, 0)
        self.tells(0, place_of, (20, 20), ())
        self.tells(0, place_of, (20, 20), (20,) * 20)


class NoNumbers(GridCase):
    def test_whatever_it_is(self):
        for box, n in [((0, 0), 0), ((1, 1), 1), ((2, 2), 2), ((4, 5), 7), ((20, 20), 200)]:
            for number in WHATEVER + [(), (0,), [0], -1] + FAR_NUMBERS:
                self.refuses(NoNumber, share_at, box, n, number)

    def test_no_cells_below_nought_and_beyond(self):
        for box, n in [((0, 0), 1), ((0, 0), -1), ((2, 2), 5), ((20, 20), 401), ((20, 20), -1), ((3, 0), 1)]:
            for number in [0, 1, -1, None, True, False]:
                self.refuses(NoNumber, share_at, box, n, number)
        for n in FAR_NUMBERS:
            self.refuses(NoNumber, share_at, (3, 3), n, 0)


class Refusals(GridCase):
    def test_what_does_not_fit(self):
        for box, share in [
            ((0, 0), (1,)), ((0, 5), (1,)), ((5, 0), (1,)), ((2, 3), (4,)), ((2, 3), (4, 4)), ((2, 3), (1, 1, 1)),
            ((20, 19), (20,)), ((19, 20), (1,) * 20), ((1, 1), (20,) * 20),
        ]:
            self.refuses(NoFit, place_of, box, share)

    def test_no_box_goes_first(self):
        for thing in NO_BOXES:
            self.refuses(NoBox, share_at, thing, 0, 0)
            self.refuses(NoBox, share_at, thing, 2, -1)
            self.refuses(NoBox, share_at, thing, -1, None)
            self.refuses(NoBox, place_of, thing, ())
            self.refuses(NoBox, place_of, thing, (20,) * 20)

    def test_refused_right_behind_a_box_that_is_alike(self):
        for box, thing in [((1, 1), (True, 1)), ((0, 1), (0, True)), ((0, 0), (False, 0)), ((1, 0), (1, False))]:
            share_at(box, 0, 0), place_of(box, ())
            self.refuses(NoBox, share_at, thing, 0, 0)
            self.refuses(NoBox, place_of, thing, ())
