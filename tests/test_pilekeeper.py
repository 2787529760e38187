"""Promise [36]: a keeper of a pile, its deeds, back and again; of [3], that a kept pile is what its deeds make it."""

import itertools
import random

from gridshares.errors import NoBack, NoBox, NoFit, NoPile, NoRow
from gridshares.pilekeeper import PileKeeper
from gridshares.piles import is_pile, pile_fits
from tests.common import FAR_NUMBERS, WHATEVER, GridCase
from tests.common_piles import GREAT, NO_DEEP_BOXES, NO_PILES, SIX, cells_of_pile, piles_gone_through

NO_ROWS = WHATEVER + FAR_NUMBERS + [-1, -2, 6, 7, 20, 21, (), (0,), (1,), ("put", 0), {0: 0}]
SMALL_BOXES = [(0, 0, 0), (1, 1, 1), (2, 2, 2), (1, 3, 2), (3, 1, 2), (2, 3, 1), (0, 2, 2), (2, 2, 0)]


def pile_left(pile, word, layer, row):
    """What is left behind the deed, None where there is no such row; whatever it is, a pile or not."""
    rows = [list(share) for share in pile] + [[]]
    if not (0 <= layer < len(rows) and 0 <= row <= len(rows[layer])):
        return None
    rows[layer].append(0)
    rows[layer][row] += 1 if word == "put" else -1
    if rows[layer][row] < 0:
        return None
    shares = [tuple(length for at, length in enumerate(share) if length or any(share[at:])) for share in rows]
    while shares and shares[-1] == ():
        shares.pop()
    return tuple(shares)


def deed_leaves(box, pile, word, layer, row):
    """The pile of the box that the deed leaves, None where it is to be refused."""
    left = pile_left(pile, word, layer, row)
    return left if left is not None and is_pile(left) and pile_fits(box, left) else None


def deed_of(keeper, word):
    return keeper.put if word == "put" else keeper.take


class Deeds(GridCase):
    def test_new_ones(self):
        for pile in GREAT + piles_gone_through(2, 2, 2):
            self.tells(pile, PileKeeper((6, 6, 6), pile).pile)

    def test_each_deed_of_small_boxes(self):
        for box in SMALL_BOXES:
            for pile in piles_gone_through(*box):
                for word, layer, row in itertools.product(["put", "take"], range(-1, 4), range(-1, 5)):
                    self.check(box, pile, word, layer, row)

    def check(self, box, pile, word, layer, row):
        keeper, left = PileKeeper(box, pile), deed_leaves(box, pile, word, layer, row)
        if left is None:
            self.refuses(NoRow, deed_of(keeper, word), layer, row)
            self.tells(pile, keeper.pile)
            self.refuses(NoBack, keeper.back)
        else:
            cells = cells_of_pile(left) ^ cells_of_pile(pile)
            self.assertEqual([(row, layer)], [(cell[0], cell[2]) for cell in cells])
            self.assertEqual(repr(len(cells_of_pile(left))), repr(deed_of(keeper, word)(layer, row)))
            self.tells(left, keeper.pile)
            self.assertEqual(len(cells_of_pile(pile)), keeper.back())
            self.tells(pile, keeper.pile)

    def test_great_piles(self):
        for pile in GREAT:
            for box in [(6, 6, 6), (6, 6, 5), (5, 6, 6), (6, 5, 6)]:
                if pile_fits(box, pile):
                    for word, layer, row in itertools.product(["put", "take"], range(8), range(8)):
                        self.check(box, pile, word, layer, row)

    def test_behind_the_last(self):
        keeper = PileKeeper((2, 2, 2), ())
        self.assertEqual(1, keeper.put(0, 0))
        self.assertEqual(((1,),), keeper.pile())
        self.assertEqual(2, keeper.put(1, 0))
        self.assertEqual(((1,), (1,)), keeper.pile())
        self.assertEqual(3, keeper.put(0, 1))
        self.assertEqual(((1, 1), (1,)), keeper.pile())
        self.assertEqual(4, keeper.put(1, 1))
        self.assertEqual(((1, 1), (1, 1)), keeper.pile())
        for layer, row in [(2, 0), (0, 2), (1, 2), (1, 0), (3, 0), (0, 3)]:
            self.refuses(NoRow, keeper.put, layer, row)

    def test_the_last_layer_left_empty_is_none(self):
        keeper = PileKeeper((2, 2, 2), ((2,), (1,)))
        self.assertEqual(2, keeper.take(1, 0))
        self.assertEqual(((2,),), keeper.pile())
        self.assertEqual(1, keeper.take(0, 0))
        self.assertEqual(0, keeper.take(0, 0))
        self.assertEqual((), keeper.pile())
        self.refuses(NoRow, keeper.take, 0, 0)
        self.assertEqual([1, 2, 3], [keeper.back() for time in range(3)])
        self.assertEqual(((2,), (1,)), keeper.pile())
        self.assertEqual([2, 1, 0], [keeper.again() for time in range(3)])
        self.assertEqual((), keeper.pile())

    def test_a_layer_left_empty_under_another(self):
        for pile in [((1,), (1,)), ((1,), (1,), (1,))]:
            keeper = PileKeeper((2, 2, 3), pile)
            for layer in range(len(pile) - 1):
                self.refuses(NoRow, keeper.take, layer, 0)
            self.tells(pile, keeper.pile)
            self.assertEqual(len(pile) - 1, keeper.take(len(pile) - 1, 0))

    def test_the_greatest_pile(self):
        keeper = PileKeeper((6, 6, 6), (SIX,) * 6)
        for layer in range(8):
            for row in range(8):
                self.refuses(NoRow, keeper.put, layer, row)
                if (layer, row) != (5, 5):
                    self.refuses(NoRow, keeper.take, layer, row)
        self.assertEqual(215, keeper.take(5, 5))
        self.assertEqual(216, keeper.put(5, 5))
        self.assertEqual((SIX,) * 6, keeper.pile())

    def test_whatever_is_no_row_or_layer(self):
        for box, pile in [((0, 0, 0), ()), ((2, 2, 2), ()), ((3, 3, 3), ((2, 1), (1,))), ((6, 6, 6), (SIX,) * 6)]:
            keeper = PileKeeper(box, pile)
            for thing in NO_ROWS:
                for deed in [keeper.put, keeper.take]:
                    for number in [0, 1, 5]:
                        self.refuses(NoRow, deed, thing, number)
                        self.refuses(NoRow, deed, number, thing)
                    self.refuses(NoRow, deed, thing, thing)
            self.tells(pile, keeper.pile)
            self.refuses(NoBack, keeper.back)

    def test_a_truth_is_no_row_and_no_layer(self):
        keeper = PileKeeper((3, 3, 3), ((2, 1), (1,)))
        for layer, row in [(False, 0), (0, False), (True, 0), (1, False), (0, True), (False, True), (True, False)]:
            self.refuses(NoRow, keeper.put, layer, row)
            self.refuses(NoRow, keeper.take, layer, row)
        self.assertEqual(5, keeper.put(0, 0))
        self.assertEqual(6, keeper.put(1, 0))


class BackAndAgain(GridCase):
    def test_nothing_to_take_back(self):
        keeper = PileKeeper((2, 2, 2), ((1,),))
        for time in range(2):
            self.refuses(NoBack, keeper.back)
            self.refuses(NoBack, keeper.again)
        self.tells(((1,),), keeper.pile)

    def test_a_new_deed_forgets_what_might_be_done_again(self):
        for word, layer, row in [("put", 0, 0), ("put", 1, 0), ("take", 0, 0)]:
            keeper = PileKeeper((3, 3, 3), ((1,),))
            keeper.put(0, 1)
            keeper.put(1, 0)
            keeper.back()
            keeper.back()
            deed_of(keeper, word)(layer, row)
            self.refuses(NoBack, keeper.again)
            self.assertEqual(1, keeper.back())
            self.refuses(NoBack, keeper.back)
            self.assertEqual(0 if word == "take" else 2, keeper.again())
            self.refuses(NoBack, keeper.again)

    def test_a_refused_deed_forgets_nothing(self):
        for thing in NO_ROWS:
            keeper = PileKeeper((3, 3, 3), ((1,),))
            keeper.put(0, 0)
            keeper.put(1, 0)
            keeper.back()
            keeper.back()
            self.refuses(NoRow, keeper.put, thing, 0)
            self.refuses(NoRow, keeper.put, 0, thing)
            self.refuses(NoRow, keeper.take, 0, thing)
            self.refuses(NoRow, keeper.take, 1, 0)
            self.refuses(NoRow, keeper.put, 0, 2)
            self.refuses(NoBack, keeper.back)
            self.assertEqual([2, 3], [keeper.again(), keeper.again()])
            self.refuses(NoBack, keeper.again)
            self.tells(((2,), (1,)), keeper.pile)

    def test_a_deed_out_of_the_box_forgets_nothing(self):
        keeper = PileKeeper((1, 2, 1), ((1,),))
        keeper.put(0, 0)
        keeper.back()
        self.refuses(NoRow, keeper.put, 1, 0)
        self.refuses(NoRow, keeper.put, 0, 1)
        self.assertEqual(2, keeper.again())

    def test_deeds_by_chance(self):
        chance = random.Random(36)
        for box in [(6, 6, 6), (3, 3, 3), (2, 2, 2), (1, 4, 2), (4, 1, 3), (0, 2, 2)]:
            keeper, piles, at = PileKeeper(box, ()), [()], 0
            for time in range(300):
                deed = chance.choice(["put", "put", "put", "take", "back", "back", "again"])
                layer, row = chance.randrange(-1, box[2] + 1), chance.randrange(-1, box[0] + 1)
                if deed in ("back", "again"):
                    to = at - 1 if deed == "back" else at + 1
                    if 0 <= to < len(piles):
                        at = to
                        told = keeper.back() if deed == "back" else keeper.again()
                        self.assertEqual(len(cells_of_pile(piles[at])), told)
                    else:
                        self.refuses(NoBack, keeper.back if deed == "back" else keeper.again)
                elif deed_leaves(box, piles[at], deed, layer, row) is None:
                    self.refuses(NoRow, deed_of(keeper, deed), layer, row)
                else:
                    piles = piles[:at + 1] + [deed_leaves(box, piles[at], deed, layer, row)]
                    at += 1
                    self.assertEqual(len(cells_of_pile(piles[at])), deed_of(keeper, deed)(layer, row))
                self.tells(piles[at], keeper.pile)

    def test_two_beside_one_another(self):
        one, other = PileKeeper((3, 3, 3), ((1,),)), PileKeeper((3, 3, 3), ((1,),))
        one.put(0, 0)
        other.put(1, 0)
        one.back()
        self.tells(((1,), (1,)), other.pile)
        self.refuses(NoBack, other.again)
        self.tells(((1,),), one.pile)
        self.assertEqual(2, one.again())


class Refusals(GridCase):
    def test_no_pile_goes_first(self):
        for thing in NO_PILES:
            for box in [(6, 6, 6), (0, 0, 0), None, (1, 1), (True, 1, 1), (7, 7, 7), [1, 1, 1]]:
                self.refuses(NoPile, PileKeeper, box, thing)

    def test_no_box(self):
        for box in NO_DEEP_BOXES:
            for pile in [(), ((1,),), (SIX,) * 6]:
                self.refuses(NoBox, PileKeeper, box, pile)
            for thing in [None, [], ((),), ((7,),), ((1,), (2,)), ((True,),)]:
                self.refuses(NoPile, PileKeeper, box, thing)

    def test_no_fit(self):
        for box in [(0, 0, 0), (1, 1, 0), (1, 0, 1), (0, 1, 1), (1, 2, 1), (2, 1, 2), (5, 6, 6), (6, 5, 6), (6, 6, 5)]:
            for pile in [((1,),), ((2, 1),), ((1,), (1,))] + GREAT:
                if not pile_fits(box, pile):
                    self.refuses(NoFit, PileKeeper, box, pile)
