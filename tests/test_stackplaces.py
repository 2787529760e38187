"""Promise [26]: stacks by their numbers; of [3], that they go there and back."""

import random

from gridshares.errors import NoNumber, NoStack
from gridshares.stackplaces import place_of_stack, stack_at
from gridshares.stacks import is_stack, stacks_between
from tests.common import FAR_NUMBERS, WHATEVER, GridCase, all_shares, cell_set, stacks_gone_through

SMALL = all_shares(2, 3)
PAIRS = [(one, other) for one in SMALL for other in SMALL]
NOT_WITHIN = [(one, other) for one, other in PAIRS if not cell_set(one) <= cell_set(other)]
FOUR = (4, 4, 4, 4)


class ByNumber(GridCase):
    def test_each_at_its_number_in_the_order_of_lists(self):
        for one, other in PAIRS:
            for k in range(4 if len(other) < 2 else 3):
                for number, stack in enumerate(sorted(stacks_gone_through(one, other, k))):
                    self.tells(stack, stack_at, one, other, k, number)
                    self.tells(number, place_of_stack, one, other, stack)

    def test_there_and_back(self):
        chance = random.Random(26)
        for one, other in [((), FOUR), ((1,), FOUR), ((2, 1), (4, 4, 3, 1)), ((), (4, 3, 2, 1)), (FOUR, FOUR), ((), ())]:
            for k in range(7):
                many = stacks_between(one, other, k)
                ahead = None
                for number in sorted({0, many // 2, many - 1} | {chance.randrange(many) for time in range(4)}):
                    stack = self.told(stack_at, one, other, k, number)
                    self.assertTrue(is_stack(one, other, k, stack))
                    self.assertTrue(ahead is None or ahead < stack)
                    self.tells(number, place_of_stack, one, other, stack)
                    ahead = stack
                for number in [many, many + 1, -1, -many]:
                    self.refuses(NoNumber, stack_at, one, other, k, number)

    def test_told(self):
        self.tells([], stack_at, (1,), (2, 1), 0, 0)
        self.tells(0, place_of_stack, (1,), (2, 1), [])
        self.tells([(), (1,)], stack_at, (), (1,), 2, 1)
        self.tells([(), ()], stack_at, (), FOUR, 2, 0)
        self.tells([FOUR] * 6, stack_at, (), FOUR, 6, 9343619)
        self.tells(9343619, place_of_stack, (), FOUR, [FOUR] * 6)


class Refusals(GridCase):
    def test_no_number_whatever_it_is(self):
        for one, other, k in [((), (), 0), ((), (2, 1), 2), ((), FOUR, 6), ((1,), (1,), 3), ((2,), (1,), 1)]:
            for number in WHATEVER + FAR_NUMBERS + [(), (0,), -1]:
                self.refuses(NoNumber, stack_at, one, other, k, number)

    def test_no_number_where_there_is_no_stack(self):
        for one, other in NOT_WITHIN + [((5,), FOUR)]:
            for k in [0, 1, 2, 6]:
                for number in [0, 1, -1, None, True, False, "0"]:
                    self.refuses(NoNumber, stack_at, one, other, k, number)
        self.refuses(NoNumber, stack_at, (), (1,), -1, 0)

    def test_no_stack_whatever_it_is(self):
        for one, other in [((), (2, 1)), ((1,), FOUR), ((2,), (1, 1))]:
            for thing in WHATEVER + FAR_NUMBERS + [(), 0, 1]:
                if thing not in ([], [(1, 1)]):
                    self.refuses(NoStack, place_of_stack, one, other, thing)

    def test_no_stack_that_is_like_one(self):
        self.tells(8, place_of_stack, (), (2, 1), [(1,), (2, 1)])
        for thing in [
            ((1,), (2,)), [[1], [2]], [(1,), [2]], [(2,), (1,)], [(1,), (3,)], [(1,), (1, 1, 1)], [(1,), None], [(True,), (2,)],
            [(1,), (2, 0)], [(0,), (2,)], {0: (1,), 1: (2,)}, [((1,), (2,))], [(1,), "2"], [1, 2], "1 2", [(1,), 2],
        ]:
            self.refuses(NoStack, place_of_stack, (), (2, 1), thing)
        self.refuses(NoStack, place_of_stack, (1,), (2, 1), [()])

    def test_no_stack_where_one_does_not_lie_within_other(self):
        for one, other in NOT_WITHIN:
            for thing in [[], [one], [other], [()], None, ()]:
                self.refuses(NoStack, place_of_stack, one, other, thing)
