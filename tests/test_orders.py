"""Promise [9]: shares one within another, joined and met; of [3], what it says of joined and met."""

from gridshares.boxes import other_share
from gridshares.orders import joined_shares, lies_within, met_shares
from gridshares.shares import cells_in, is_share, turned_share
from tests.common import GridCase, all_shares, cell_set

SMALL = all_shares(3, 4)
GREAT = [
    (), (1,), (20,), (1,) * 20, (20,) * 20, (20,) * 19, (19,) * 20, tuple(range(20, 0, -1)), (20,) + (1,) * 19,
    (10,) * 10, (20, 20, 3), (12, 11, 11, 2, 2, 2, 2, 1),
]
PAIRS = [(one, other) for shares in (SMALL, GREAT) for one in shares for other in shares]


class CellByCell(GridCase):
    def test_within(self):
        for one, other in PAIRS:
            self.tells(cell_set(one) <= cell_set(other), lies_within, one, other)

    def test_joined(self):
        for one, other in PAIRS:
            joined = self.told(joined_shares, one, other)
            self.assertTrue(is_share(joined))
            self.assertEqual(cell_set(one) | cell_set(other), cell_set(joined))

    def test_met(self):
        for one, other in PAIRS:
            met = self.told(met_shares, one, other)
            self.assertTrue(is_share(met))
            self.assertEqual(cell_set(one) & cell_set(other), cell_set(met))

    def test_told(self):
        self.tells((3, 2, 1), joined_shares, (3, 1), (2, 2, 1))
        self.tells((2, 1), met_shares, (3, 1), (2, 2, 1))
        self.tells(False, lies_within, (3, 1), (2, 2, 1))
        self.tells(True, lies_within, (2, 1), (2, 2, 1))
        self.tells(False, lies_within, (1, 1), (20,))
        self.tells(False, lies_within, (2,), (1, 1))


class EmptyAndItself(GridCase):
    def test_the_empty_share(self):
        for share in SMALL + GREAT:
            self.tells(True, lies_within, (), share)
            self.tells(share == (), lies_within, share, ())
            self.tells(share, joined_shares, (), share)
            self.tells(share, joined_shares, share, ())
            self.tells((), met_shares, (), share)
            self.tells((), met_shares, share, ())

    def test_a_share_and_itself(self):
        for share in SMALL + GREAT:
            self.tells(True, lies_within, share, share)
            self.tells(share, joined_shares, share, share)
            self.tells(share, met_shares, share, share)


class Laws(GridCase):
    def test_either_way_about(self):
        for one, other in PAIRS:
            self.tells(joined_shares(one, other), joined_shares, other, one)
            self.tells(met_shares(one, other), met_shares, other, one)

    def test_least_and_greatest(self):
        shares = all_shares(3, 3)
        for one in shares:
            for other in shares:
                joined, met = joined_shares(one, other), met_shares(one, other)
                self.assertTrue(lies_within(one, joined) and lies_within(other, joined))
                self.assertTrue(lies_within(met, one) and lies_within(met, other))
                for third in shares:
                    if lies_within(one, third) and lies_within(other, third):
                        self.assertTrue(lies_within(joined, third))
                    if lies_within(third, one) and lies_within(third, other):
                        self.assertTrue(lies_within(third, met))

    def test_cells_together(self):
        for one, other in PAIRS:
            together = cells_in(joined_shares(one, other)) + cells_in(met_shares(one, other))
            self.assertEqual(cells_in(one) + cells_in(other), together)

    def test_turned_about(self):
        for one, other in PAIRS:
            turned = turned_share(one), turned_share(other)
            self.tells(lies_within(one, other), lies_within, *turned)
            self.tells(turned_share(joined_shares(one, other)), joined_shares, *turned)
            self.tells(turned_share(met_shares(one, other)), met_shares, *turned)

    def test_the_others_of_a_box(self):
        for box, shares in [((3, 4), SMALL), ((4, 4), SMALL), ((20, 20), GREAT)]:
            for one in shares:
                for other in shares:
                    others = other_share(box, one), other_share(box, other)
                    self.tells(lies_within(other, one), lies_within, *others)
                    self.tells(other_share(box, met_shares(one, other)), joined_shares, *others)
                    self.tells(other_share(box, joined_shares(one, other)), met_shares, *others)
