"""Promise [23]: walks by their numbers; of [3], that they go there and back."""

import random

from gridshares.errors import NoBox, NoFit, NoNumber, NoWalk
from gridshares.walkplaces import place_of_walk, walk_at
from gridshares.walks import is_walk, walks_between
from tests.common import FAR_NUMBERS, NO_BOXES, WHATEVER, GridCase, all_shares, walks_gone_through

GREAT = [
    ((5, 5), (), (), 16), ((5, 5), (3, 2, 1), (2, 2, 2), 16), ((5, 5), (5,) * 5, (4, 4, 4), 15), ((4, 5), (1,), (5, 5), 15),
    ((5, 5), (), (4, 4, 4, 4), 16), ((2, 5), (5, 5), (), 16), ((1, 5), (), (1,), 13), ((5, 1), (), (1, 1), 16),
]


class ByNumber(GridCase):
    def test_each_at_its_number_in_the_order_of_lists(self):
        for box in [(0, 0), (0, 2), (1, 1), (1, 3), (2, 2), (3, 2), (3, 3)]:
            for one in all_shares(*box)[::3]:
                for k in range(5):
                    for other, walks in walks_gone_through(box, one, k).items():
                        for number, steps in enumerate(sorted(walks)):
                            self.tells(steps, walk_at, box, one, other, k, number)
                            self.tells(number, place_of_walk, box, one, other, steps)
                        self.refuses(NoNumber, walk_at, box, one, other, k, len(walks))

    def test_there_and_back(self):
        chance = random.Random(23)
        for box, one, other, k in GREAT:
            many = walks_between(box, one, other, k)
            ahead = []
            for number in sorted({0, many // 2, many - 1} | {chance.randrange(many) for time in range(5)}):
                steps = self.told(walk_at, box, one, other, k, number)
                self.assertEqual(k, len(steps))
                self.assertTrue(is_walk(box, one, other, steps))
                self.assertLess(ahead, steps)
                self.tells(number, place_of_walk, box, one, other, steps)
                ahead = steps
            for number in [many, many + 1, -1, -many]:
                self.refuses(NoNumber, walk_at, box, one, other, k, number)

    def test_told(self):
        self.tells([("put", 0), ("put", 0), ("take", 0)], walk_at, (2, 2), (), (1,), 3, 0)
        self.tells([("put", 0), ("put", 1), ("take", 1)], walk_at, (2, 2), (), (1,), 3, 1)
        self.tells([("put", 0), ("take", 0), ("put", 0)], walk_at, (2, 2), (), (1,), 3, 2)
        self.tells([], walk_at, (2, 2), (1,), (1,), 0, 0)
        self.tells(0, place_of_walk, (2, 2), (1,), (1,), [])


class Refusals(GridCase):
    def test_no_number_whatever_it_is(self):
        for box, one, other, k in [((2, 2), (), (), 0), ((2, 2), (), (1,), 3), ((5, 5), (), (), 16), ((0, 0), (), (), 0)]:
            for number in WHATEVER + FAR_NUMBERS + [(), (0,), -1]:
                self.refuses(NoNumber, walk_at, box, one, other, k, number)

    def test_no_number_where_there_is_no_walk(self):
        for box, one, other, k in [
            ((2, 2), (), (), 1), ((2, 2), (), (1,), 0), ((2, 2), (), (1,), 16), ((5, 5), (), (5,) * 5, 16),
            ((0, 0), (), (), 2), ((2, 2), (), (), -1), ((2, 2), (), (), -2),
        ]:
            for number in [0, 1, -1, None, True, False, "0"]:
                self.refuses(NoNumber, walk_at, box, one, other, k, number)

    def test_no_walk_whatever_it_is(self):
        for box, one, other in [((2, 2), (), (2, 1)), ((5, 5), (3, 1), (3, 1))]:
            for thing in WHATEVER + FAR_NUMBERS + [(), 0, [("put", 0), ("take", 1)], [["put", 0], ["take", 0]], [("put", False)]]:
                if thing != []:
                    self.refuses(NoWalk, place_of_walk, box, one, other, thing)

    def test_no_box_then_no_fit(self):
        for box in NO_BOXES:
            self.refuses(NoBox, walk_at, box, (), (20,) * 20, 1, None)
            self.refuses(NoBox, place_of_walk, box, (), (20,) * 20, None)
        for box, one, other in [((1, 2), (3,), ()), ((1, 2), (), (1, 1)), ((0, 0), (1,), (1,))]:
            for thing in [None, 0, -1, True, [], [("put", 0)]]:
                self.refuses(NoFit, walk_at, box, one, other, 1, thing)
                self.refuses(NoFit, place_of_walk, box, one, other, thing)
