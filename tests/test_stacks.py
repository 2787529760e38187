"""Promise [25]: stacks of shares; of [3], what it says of them."""

import math
import time

from gridshares.boxes import other_share
from gridshares.bysquares import stacks_by_square
from gridshares.errors import NoStack
from gridshares.shares import turned_share
from gridshares.stackplaces import place_of_stack
from gridshares.stacks import is_stack, joined_stacks, met_stacks, stacks_between
from tests.common import FAR_NUMBERS, WHATEVER, GridCase, all_shares, cell_set, stacks_gone_through

SMALL = all_shares(2, 3)
PAIRS = [(one, other) for one in SMALL for other in SMALL]
NOT_WITHIN = [(one, other) for one, other in PAIRS if not cell_set(one) <= cell_set(other)]
FOUR = (4, 4, 4, 4)
NO_SHARES = [
    None, True, False, 0, 1, "", "1", [], [1], {}, (0,), (1, 0), (1, 2), (True,), (False,), (21,), (1,) * 21, ("1",), ((1,),),
    ([1],), (None,), (-1,), (1, True), *FAR_NUMBERS,
]


class IsStack(GridCase):
    def test_all_lists_of_few_shares(self):
        for one, other in PAIRS:
            for k in range(3):
                stacks = stacks_gone_through(one, other, k)
                for thing in [[]] + [[share] for share in SMALL] + [[share, further] for share in SMALL for further in SMALL]:
                    self.assertIs(thing in stacks, is_stack(one, other, k, thing))

    def test_told(self):
        self.tells(True, is_stack, (1,), (3, 1), 3, [(1,), (2,), (3, 1)])
        self.tells(False, is_stack, (1,), (3, 1), 3, [(1,), (3,), (2, 1)])
        self.tells(True, is_stack, (), (), 4, [(), (), (), ()])
        self.tells(True, is_stack, (), (20,) * 20, 2, [(), (20,) * 20])
        self.tells(False, is_stack, (), (19,) * 20, 2, [(), (20,) * 20])
        self.tells(True, is_stack, (), (20,) * 20, 1000, [(7, 3)] * 1000)

    def test_of_none(self):
        for one, other in PAIRS:
            self.tells(cell_set(one) <= cell_set(other), is_stack, one, other, 0, [])
            self.tells(False, is_stack, one, other, 0, [one])
            self.tells(False, is_stack, one, other, 0, ())
            self.tells(False, is_stack, one, other, 1, [])

    def test_whatever_is_none(self):
        for one, other, k in [((), (2, 1), 2), ((1,), (3, 1), 1), ((), FOUR, 6), ((), (1,), 0), ((), (), 3)]:
            for thing in WHATEVER + FAR_NUMBERS + [(), 0, 1, -1]:
                if thing not in ([], [(1, 1)]):
                    self.tells(False, is_stack, one, other, k, thing)

    def test_whatever_is_like_one(self):
        for one, other, stack in [
            ((), (2, 1), [(1,), (2,)]), ((1,), (3, 3), [(1, 1), (2, 2), (3, 3)]), ((), FOUR, [()] * 6), ((), (1,), [(1,)]),
        ]:
            k = len(stack)
            self.tells(True, is_stack, one, other, k, stack)
            for thing in self.like(stack):
                self.tells(False, is_stack, one, other, k, thing)

    def like(self, stack):
        """Things that are like the stack, but are no stack of as many shares."""
        things = [
            tuple(stack), dict(enumerate(stack)), str(stack), [stack], (stack,), [list(share) for share in stack],
            stack + stack[-1:], stack[:1] + stack, stack[:-1], stack[1:],
        ]
        for at, share in enumerate(stack):
            things += [stack[:at] + [thing] + stack[at + 1:] for thing in NO_SHARES + [list(share), share + (0,)]]
        return things

    def test_a_share_too_many_or_too_few(self):
        for one, other in [((), (2, 1)), ((1,), (3,)), ((), FOUR)]:
            for k in range(5):
                for many in range(7):
                    self.tells(many == k, is_stack, one, other, k, [one] * many)

    def test_where_one_does_not_lie_within_other(self):
        for one, other in NOT_WITHIN:
            for thing in [[], [one], [other], [one, other], [()], None, (), "", 0]:
                for k in range(3):
                    self.tells(False, is_stack, one, other, k, thing)
                self.refuses(NoStack, place_of_stack, one, other, thing)


class HowMany(GridCase):
    def test_gone_through(self):
        for one, other in PAIRS:
            for k in range(4):
                self.tells(len(stacks_gone_through(one, other, k)), stacks_between, one, other, k)
        for one, other in [((), (4, 4)), ((1,), (4, 3, 1)), ((1, 1), (2, 2, 2, 2))]:
            for k in range(4):
                self.tells(len(stacks_gone_through(one, other, k)), stacks_between, one, other, k)

    def test_as_the_square(self):
        for one in all_shares(4, 4)[::3]:
            for other in all_shares(4, 4)[::2] + [FOUR]:
                for k in [0, 1, 2, 5, 6]:
                    self.assertEqual(stacks_by_square(one, other, k), stacks_between(one, other, k), (one, other, k))

    def test_not_within(self):
        for one, other in NOT_WITHIN + [((5,), FOUR), ((1,) * 5, FOUR), ((20,) * 20, ()), ((4, 4), (4, 3, 3))]:
            for k in range(7):
                self.tells(0, stacks_between, one, other, k)

    def test_of_none_and_of_one_share(self):
        shares = all_shares(4, 4)
        for one in shares[::4]:
            for other in [share for share in shares if cell_set(one) <= cell_set(share)]:
                self.tells(1, stacks_between, one, other, 0)
                between = [share for share in shares if cell_set(one) <= cell_set(share) <= cell_set(other)]
                self.tells(len(between), stacks_between, one, other, 1)
        for k in range(7):
            self.tells(1, stacks_between, FOUR, FOUR, k)
            self.tells(k + 1, stacks_between, (), (1,), k)
            self.tells(math.comb(k + 4, 4), stacks_between, (), (4,), k)
        self.tells(0, stacks_between, (), FOUR, -1)

    def test_four_by_four_soon(self):
        begun = time.monotonic()
        self.tells(9343620, stacks_between, (), FOUR, 6)
        self.assertLess(time.monotonic() - begun, 5)

    def test_turned_about_and_by_the_others(self):
        for one in all_shares(4, 4)[::9]:
            for other in all_shares(4, 4)[::4]:
                many = stacks_between(one, other, 3)
                self.assertEqual(many, stacks_between(turned_share(one), turned_share(other), 3))
                self.assertEqual(many, stacks_between(other_share((4, 4), other), other_share((4, 4), one), 3))


class JoinedAndMet(GridCase):
    def test_share_by_share(self):
        stacks = stacks_gone_through((), (3, 2), 2)
        for some in stacks:
            for others in stacks[::3]:
                joined, met = self.told(joined_stacks, some, others), self.told(met_stacks, some, others)
                self.assertTrue(is_stack((), (3, 2), 2, joined) and is_stack((), (3, 2), 2, met))
                for one, other, more, less in zip(some, others, joined, met):
                    self.assertEqual(cell_set(one) | cell_set(other), cell_set(more))
                    self.assertEqual(cell_set(one) & cell_set(other), cell_set(less))

    def test_the_least_and_the_greatest(self):
        stacks = stacks_gone_through((), (2, 2), 2)
        for some in stacks[::3]:
            for others in stacks[::2]:
                over = [stack for stack in stacks if self.within(some, stack) and self.within(others, stack)]
                under = [stack for stack in stacks if self.within(stack, some) and self.within(stack, others)]
                self.assertTrue(all(self.within(joined_stacks(some, others), stack) for stack in over))
                self.assertTrue(all(self.within(stack, met_stacks(some, others)) for stack in under))
                self.assertIn(joined_stacks(some, others), over)
                self.assertIn(met_stacks(some, others), under)

    def within(self, stack, other):
        return all(cell_set(share) <= cell_set(further) for share, further in zip(stack, other))

    def test_of_none_and_of_many(self):
        self.tells([], joined_stacks, [], [])
        self.tells([], met_stacks, [], [])
        self.tells([(3, 2)] * 1000, joined_stacks, [(3,)] * 1000, [(2, 2)] * 1000)
        self.tells([(2,)] * 1000, met_stacks, [(3,)] * 1000, [(2, 2)] * 1000)
        self.tells([(20,) * 20], joined_stacks, [(20,) * 20], [()])
        self.tells([()], met_stacks, [(20,) * 20], [()])

    def test_told_lists_are_the_askers_own(self):
        some = [(1,), (2,)]
        for told in [joined_stacks(some, some), met_stacks(some, some)]:
            told.append((3,))
        self.assertEqual([(1,), (2,)], some)
