"""Promise [28]: piles turned by their ways, joined, met, and one within another; of [3], that all turns along."""

import itertools

from gridshares.errors import NoPile, NoWay
from gridshares.piles import is_pile, other_pile, pile_fits
from gridshares.pileways import joined_piles, met_piles, pile_within, turned_pile
from gridshares.shares import turned_share
from tests.common import FAR_NUMBERS, WHATEVER, GridCase
from tests.common_piles import GREAT, NO_PILES, SIX, SMALL, STAIRS, cells_of_pile, piles_gone_through

ORDERS = list(itertools.permutations(range(3)))
NO_WAYS = [thing for thing in WHATEVER if thing != (0, 1, 2)] + FAR_NUMBERS + [
    0, 1, 2, -1, (), (0,), (0, 1), (1, 2), (0, 1, 2, 3), (0, 1, 2, 0), (0, 1, 2, None), (0, 0, 1), (0, 0, 0), (1, 1, 1),
    (2, 2, 2), (0, 1, 1), (0, 2, 2), (1, 1, 2), (0, 1, -1), (-1, 0, 1), (-1, -2, -3), (0, 1, 3), (1, 2, 3), (3, 4, 5),
    (0, True, 2), (False, 1, 2), (False, True, 2), (2, True, 0), (True, False, 2), (2, 1, False), [0, 1, 2], [2, 1, 0],
    "012", "210", ("0", "1", "2"), (0, 1, "2"), (0, None, 2), (None, None, None), ((0,), (1,), (2,)), ((0, 1, 2),),
    (0, (1,), 2), (0, 1, [2]), (0, {}, 2), {0: 0, 1: 1, 2: 2}, (0, 1, 10 ** 29), (-10 ** 29, 1, 2), ((0, 1), 2), (0, 1, ()),
    [(0, 1, 2)], (0, 1, 2) * 300,
]
SOME = piles_gone_through(2, 2, 2) + piles_gone_through(1, 3, 2)[::2] + GREAT


class Turned(GridCase):
    def test_all_orders_cell_by_cell(self):
        for pile in SMALL + GREAT:
            for ways in ORDERS:
                turned = self.told(turned_pile, pile, ways)
                self.assertTrue(is_pile(turned))
                expected = {tuple(cell[way] for way in ways) for cell in cells_of_pile(pile)}
                self.assertEqual(expected, cells_of_pile(turned))

    def test_told(self):
        pile = ((3, 1), (2,))
        self.tells(((3, 1), (2,)), turned_pile, pile, (0, 1, 2))
        self.tells(((2, 2, 1), (1,)), turned_pile, pile, (1, 2, 0))
        self.tells(((2, 1, 1), (1, 1)), turned_pile, pile, (1, 0, 2))
        self.tells(((2, 1), (2,), (1,)), turned_pile, pile, (0, 2, 1))
        self.tells((), turned_pile, (), (2, 0, 1))

    def test_there_and_back(self):
        for pile in SMALL + GREAT:
            for ways in ORDERS:
                back = tuple(ways.index(way) for way in range(3))
                self.assertEqual(pile, turned_pile(turned_pile(pile, ways), back))

    def test_layers_turned_about(self):
        for pile in SMALL + GREAT:
            self.tells(tuple(turned_share(layer) for layer in pile), turned_pile, pile, (1, 0, 2))

    def test_the_others_of_a_box_turn_along(self):
        for pile in SMALL:
            for ways in ORDERS:
                box = (3, 3, 3) if pile_fits((3, 3, 3), pile) else (4, 5, 6)
                turned_box = tuple(box[way] for way in ways)
                turned = turned_pile(pile, ways)
                self.assertEqual(turned_pile(other_pile(box, pile), ways), other_pile(turned_box, turned))

    def test_no_way_whatever_it_is(self):
        for pile in [(), ((1,),), ((3, 1), (2,)), (SIX,) * 6]:
            for thing in NO_WAYS:
                self.refuses(NoWay, turned_pile, pile, thing)

    def test_truths_right_behind_the_order_that_is_alike(self):
        self.tells(((1, 1),), turned_pile, ((2,),), (1, 0, 2))
        self.refuses(NoWay, turned_pile, ((2,),), (True, False, 2))

    def test_no_pile_ahead_of_no_way(self):
        for thing in NO_PILES:
            for ways in [(0, 1, 2), (2, 1, 0), None, (0, 0, 0), [0, 1, 2], (False, True, 2), 0]:
                self.refuses(NoPile, turned_pile, thing, ways)


class JoinedAndMet(GridCase):
    def test_as_sets_of_cells(self):
        for one in SOME:
            for other in SOME:
                joined, met = self.told(joined_piles, one, other), self.told(met_piles, one, other)
                self.assertTrue(is_pile(joined) and is_pile(met))
                self.assertEqual(cells_of_pile(one) | cells_of_pile(other), cells_of_pile(joined))
                self.assertEqual(cells_of_pile(one) & cells_of_pile(other), cells_of_pile(met))
                self.tells(cells_of_pile(one) <= cells_of_pile(other), pile_within, one, other)

    def test_told(self):
        one, other = ((3,), (1,), (1,)), ((2, 2), (2, 1))
        self.tells(((3, 2), (2, 1), (1,)), joined_piles, one, other)
        self.tells(((2,), (1,)), met_piles, one, other)
        self.tells((SIX,) * 6, joined_piles, (SIX,) * 6, (STAIRS,) * 3)
        self.tells((STAIRS,) * 3, met_piles, (SIX,) * 6, (STAIRS,) * 3)
        self.tells((), met_piles, (), (SIX,) * 6)
        self.tells((SIX,) * 6, joined_piles, (), (SIX,) * 6)
        self.tells((), joined_piles, (), ())
        self.tells(True, pile_within, (), ())
        self.tells(True, pile_within, ((1,),), ((1,), (1,)))
        self.tells(False, pile_within, ((1,), (1,)), ((6,),))
        self.tells(False, pile_within, ((2,),), ((1, 1), (1,)))

    def test_turned_along(self):
        for one in SOME[::3]:
            for other in SOME[::4]:
                for ways in ORDERS:
                    turned = turned_pile(one, ways), turned_pile(other, ways)
                    self.assertEqual(turned_pile(joined_piles(one, other), ways), joined_piles(*turned))
                    self.assertEqual(turned_pile(met_piles(one, other), ways), met_piles(*turned))
                    self.assertEqual(pile_within(one, other), pile_within(*turned))

    def test_by_the_others_joined_is_met(self):
        box = (2, 2, 2)
        piles = piles_gone_through(*box)
        for one in piles:
            for other in piles:
                others = other_pile(box, one), other_pile(box, other)
                self.assertEqual(other_pile(box, joined_piles(one, other)), met_piles(*others))
                self.assertEqual(other_pile(box, met_piles(one, other)), joined_piles(*others))
                self.assertEqual(pile_within(one, other), pile_within(*others[::-1]))

    def test_no_pile_of_either(self):
        for thing in NO_PILES:
            for pile in [(), ((2, 1), (1,)), (SIX,) * 6, None, [(1,)]]:
                for function in [joined_piles, met_piles, pile_within]:
                    self.refuses(NoPile, function, thing, pile)
                    self.refuses(NoPile, function, pile, thing)
