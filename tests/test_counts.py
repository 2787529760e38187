"""Promise [7]: how many shares fit a box."""

import math

from gridshares.counts import all_in, cell_table, how_many
from gridshares.errors import NoBox
from tests.common import BOXES, FAR_NUMBERS, GREAT_BOXES, NO_BOXES, GridCase, all_shares


class SmallBoxes(GridCase):
    def test_tables_held_against_all_shares(self):
        for high, wide in BOXES:
            table = [0] * (high * wide + 1)
            for share in all_shares(high, wide):
                table[sum(share)] += 1
            self.tells(table, cell_table, (high, wide))
            self.tells(sum(table), all_in, (high, wide))
            for n, many in enumerate(table):
                self.tells(many, how_many, (high, wide), n)

    def test_none_below_nought_and_beyond(self):
        for high, wide in BOXES + GREAT_BOXES:
            for n in [-1, -2, -high * wide - 1, high * wide + 1, high * wide + 2, 401, -400] + FAR_NUMBERS:
                self.tells(0, how_many, (high, wide), n)

    def test_told_tables(self):
        self.tells([1], cell_table, (0, 0))
        self.tells([1], cell_table, (0, 20))
        self.tells([1], cell_table, (20, 0))
        self.tells([1, 1, 2, 1, 1], cell_table, (2, 2))
        self.tells([1] * 21, cell_table, (1, 20))


class GreatBoxes(GridCase):
    def test_from_behind_it_is_itself(self):
        for high, wide in BOXES + GREAT_BOXES:
            table = self.told(cell_table, (high, wide))
            self.assertEqual(high * wide + 1, len(table))
            self.assertEqual(table, table[::-1])

    def test_turned_about_it_is_the_same(self):
        for high, wide in BOXES + GREAT_BOXES:
            self.tells(cell_table((wide, high)), cell_table, (high, wide))

    def test_in_all(self):
        for high in range(21):
            for wide in range(21):
                self.tells(math.comb(high + wide, high), all_in, (high, wide))

    def test_twenty_by_twenty(self):
        table = cell_table((20, 20))
        self.assertEqual([1, 1, 2, 3, 5, 7, 11, 15, 22, 30, 42], table[:11])
        self.assertEqual(627, table[20])
        # Of 21 cells a single row and a single column are too long.
        self.assertEqual(792 - 2, table[21])
        self.assertEqual(137846528820, sum(table))
        for n in range(401):
            self.assertEqual(table[n], how_many((20, 20), n))


class NoBoxes(GridCase):
    def test_refused_by_every_function(self):
        for thing in NO_BOXES:
            self.refuses(NoBox, cell_table, thing)
            self.refuses(NoBox, all_in, thing)
            for n in [-1, 0, 1, 10 ** 29]:
                self.refuses(NoBox, how_many, thing, n)

    def test_refused_right_behind_a_box_that_is_alike(self):
        for box, thing in [((1, 1), (True, 1)), ((0, 1), (0, True)), ((0, 0), (False, 0)), ((1, 0), (1, False))]:
            how_many(box, 0), cell_table(box), all_in(box)
            self.refuses(NoBox, how_many, thing, 0)
            self.refuses(NoBox, cell_table, thing)
            self.refuses(NoBox, all_in, thing)
