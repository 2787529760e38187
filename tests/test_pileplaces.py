"""Promise [30]: piles by their numbers; of [3], that they go there and back."""

import itertools
import random
import time

from gridshares.errors import NoBox, NoFit, NoNumber, NoPile
from gridshares.pilecounts import piles_in
from gridshares.pileplaces import pile_at, place_of_pile
from gridshares.piles import is_pile, pile_fits
from tests.common import FAR_NUMBERS, WHATEVER, GridCase
from tests.common_piles import GREAT, NO_DEEP_BOXES, NO_PILES, SIX, piles_gone_through

FOUR = (4, 4, 4, 4)
SMALL_BOXES = [box for box in itertools.product(range(4), repeat=3) if sum(box) < 8] + [(4, 1, 2), (1, 4, 3), (2, 1, 4)]


class ByNumber(GridCase):
    def test_each_at_its_number_in_the_order_of_tuples(self):
        for box in SMALL_BOXES:
            piles = sorted(piles_gone_through(*box))
            for number, pile in enumerate(piles):
                self.tells(pile, pile_at, box, number)
                self.tells(number, place_of_pile, box, pile)
            for number in [-1, -len(piles), len(piles), len(piles) + 1]:
                self.refuses(NoNumber, pile_at, box, number)

    def test_three_by_three_by_three(self):
        piles = sorted(piles_gone_through(3, 3, 3))
        for number in range(0, len(piles), 7):
            self.tells(piles[number], pile_at, (3, 3, 3), number)
            self.tells(number, place_of_pile, (3, 3, 3), piles[number])

    def test_there_and_back(self):
        chance = random.Random(30)
        for box in [(4, 4, 4), (4, 3, 4), (2, 4, 4), (4, 4, 1), (1, 4, 4)]:
            many = piles_in(box)
            ahead = None
            for number in sorted({0, 1, many // 2, many - 2, many - 1} | {chance.randrange(many) for time in range(30)}):
                pile = self.told(pile_at, box, number)
                self.assertTrue(is_pile(pile) and pile_fits(box, pile))
                self.assertTrue(ahead is None or ahead < pile)
                self.tells(number, place_of_pile, box, pile)
                ahead = pile
            for number in [-1, -many, many, many + 1]:
                self.refuses(NoNumber, pile_at, box, number)

    def test_told(self):
        self.tells((), pile_at, (4, 4, 4), 0)
        self.tells(((1,),), pile_at, (4, 4, 4), 1)
        self.tells(((1,), (1,)), pile_at, (4, 4, 4), 2)
        self.tells((FOUR,) * 4, pile_at, (4, 4, 4), 232847)
        self.tells(232847, place_of_pile, (4, 4, 4), (FOUR,) * 4)
        self.tells((), pile_at, (0, 4, 4), 0)
        self.tells(0, place_of_pile, (0, 0, 0), ())

    def test_soon(self):
        begun = time.monotonic()
        for number in range(0, 232848, 50000):
            self.tells(number, place_of_pile, (4, 4, 4), pile_at((4, 4, 4), number))
        self.assertLess(time.monotonic() - begun, 5)


class Refusals(GridCase):
    def test_no_number_whatever_it_is(self):
        for box in [(0, 0, 0), (1, 1, 1), (2, 2, 2), (4, 4, 4), (0, 4, 4)]:
            for number in WHATEVER + FAR_NUMBERS + [(), (0,), -1, -2, ((1,),)]:
                self.refuses(NoNumber, pile_at, box, number)

    def test_a_truth_right_behind_the_number_that_is_alike(self):
        self.tells(((1,),), pile_at, (2, 2, 2), 1)
        self.refuses(NoNumber, pile_at, (2, 2, 2), True)
        self.tells((), pile_at, (2, 2, 2), 0)
        self.refuses(NoNumber, pile_at, (2, 2, 2), False)

    def test_no_box_ahead_of_no_number_and_no_fit(self):
        for box in NO_DEEP_BOXES:
            for number in [0, 1, -1, None, True, 10 ** 29]:
                self.refuses(NoBox, pile_at, box, number)
            for pile in [(), ((1,),), (SIX,) * 6]:
                self.refuses(NoBox, place_of_pile, box, pile)

    def test_no_pile_goes_first(self):
        for thing in NO_PILES:
            for box in [(0, 0, 0), (1, 1, 1), (4, 4, 4), None, (1, 1), (True, 1, 1), (7, 7, 7), [4, 4, 4]]:
                self.refuses(NoPile, place_of_pile, box, thing)
        for box in NO_DEEP_BOXES:
            for thing in [None, [], ((),), ((7,),), ((1,), (2,)), ((True,),)]:
                self.refuses(NoPile, place_of_pile, box, thing)

    def test_no_fit(self):
        for box in [(0, 0, 0), (1, 1, 0), (1, 0, 1), (0, 1, 1), (1, 2, 1), (2, 1, 2), (4, 4, 4), (4, 4, 1)]:
            for pile in [((1,),), ((2, 1),), ((1,), (1,)), ((4, 4), (4,), (1,)), ((1,),) * 5, ((5,),), ((1,) * 5,)] + GREAT:
                if not pile_fits(box, pile):
                    self.refuses(NoFit, place_of_pile, box, pile)
