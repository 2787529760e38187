"""Promise [8], what it says of lists; of [3], what it says of the shares of a box."""

from gridshares.counts import all_in, cell_table, how_many
from gridshares.errors import NoBox
from gridshares.listed import shares_between, shares_in, shares_of
from gridshares.places import place_of, share_at
from tests.common import BOXES, FAR_NUMBERS, NO_BOXES, GridCase, all_shares, cell_set


class Lists(GridCase):
    def test_all_shares_of_a_box(self):
        for box in BOXES:
            self.tells(all_shares(*box), shares_in, box)

    def test_rising_and_each_once(self):
        for box in BOXES:
            shares = self.told(shares_in, box)
            self.assertEqual(sorted(set(shares)), shares)

    def test_shares_of_n_cells(self):
        for high, wide in BOXES:
            shares = all_shares(high, wide)
            for n in range(high * wide + 1):
                self.tells([share for share in shares if sum(share) == n], shares_of, (high, wide), n)

    def test_none_below_nought_and_beyond(self):
        for high, wide in BOXES:
            for n in [-1, -2, high * wide + 1, high * wide + 2, 37, 400] + FAR_NUMBERS:
                if n > high * wide or n < 0:
                    self.tells([], shares_of, (high, wide), n)

    def test_told_lists(self):
        self.tells([()], shares_in, (0, 0))
        self.tells([()], shares_in, (0, 6))
        self.tells([()], shares_in, (6, 0))
        self.tells([(), (1,), (1, 1), (2,), (2, 1), (2, 2)], shares_in, (2, 2))
        self.tells([(1, 1), (2,)], shares_of, (2, 2), 2)
        self.tells([()], shares_of, (6, 6), 0)
        self.tells([(6,) * 6], shares_of, (6, 6), 36)

    def test_somewhat_greater_boxes(self):
        self.tells(all_shares(7, 7), shares_in, (7, 7))
        self.tells([share for share in all_shares(7, 8) if sum(share) == 20], shares_of, (7, 8), 20)


class ListsAndCounts(GridCase):
    def test_as_many_as_the_counts_tell(self):
        for box in BOXES:
            self.tells(len(shares_in(box)), all_in, box)
            self.tells([len(shares_of(box, n)) for n in range(box[0] * box[1] + 1)], cell_table, box)
            for n in range(-1, box[0] * box[1] + 2):
                self.tells(len(shares_of(box, n)), how_many, box, n)

    def test_each_at_its_number(self):
        for box in BOXES:
            for n in range(box[0] * box[1] + 1):
                for number, share in enumerate(shares_of(box, n)):
                    self.tells(share, share_at, box, n, number)
                    self.tells(number, place_of, box, share)


class NoBoxes(GridCase):
    def test_refused_by_every_function(self):
        for thing in NO_BOXES:
            self.refuses_box(thing)

    def test_refused_right_behind_a_box_that_is_alike(self):
        for box, thing in [
            ((1, 1), (True, True)), ((1, 1), (1, True)), ((1, 1), (True, 1)), ((0, 0), (False, False)),
            ((0, 1), (0, True)), ((0, 1), (False, 1)), ((1, 0), (1, False)), ((1, 0), (True, 0)), ((5, 1), (5, True)),
            ((0, 3), (False, 3)), ((1, 6), (True, 6)), ((6, 0), (6, False)),
        ]:
            shares_of(box, 0), shares_in(box), how_many(box, 0), cell_table(box), all_in(box)
            share_at(box, 0, 0), place_of(box, ())
            self.refuses_box(thing)
            self.tells(all_shares(*box), shares_in, box)

    def refuses_box(self, thing):
        for n in [0, 1, -1, 10 ** 29]:
            self.refuses(NoBox, shares_of, thing, n)
            self.refuses(NoBox, how_many, thing, n)
            self.refuses(NoBox, share_at, thing, n, 0)
            self.refuses(NoBox, share_at, thing, n, None)
        for function in [shares_in, cell_table, all_in]:
            self.refuses(NoBox, function, thing)
        for share in [(), (1,), (20,) * 20]:
            self.refuses(NoBox, place_of, thing, share)


class Between(GridCase):
    def test_small_shares(self):
        shares = all_shares(3, 4)
        for one in shares:
            for other in shares:
                between = [share for share in shares if cell_set(one) <= cell_set(share) <= cell_set(other)]
                self.tells(between, shares_between, one, other)

    def test_great_shares_near_to_one_another(self):
        self.tells([(20,) * 19 + (19,), (20,) * 20], shares_between, (20,) * 19 + (19,), (20,) * 20)
        self.tells([], shares_between, (20,) * 20, (20,) * 19)
