"""Promises [21], [22] and [24]: walks in a box; of [3], what it says of them."""

import math
import random
import time

from gridshares.boxes import full_share, other_share
from gridshares.errors import NoBox, NoFit, NoWalk
from gridshares.products import walks_to
from gridshares.shares import turned_share
from gridshares.walkplaces import place_of_walk, walk_at
from gridshares.walks import is_walk, walk_back, walk_of_others, walk_shares, walks_between
from tests.common import FAR_NUMBERS, NO_BOXES, WHATEVER, GridCase, all_shares, cell_set, walks_gone_through, ways_from

SMALL_BOXES = [(0, 0), (0, 3), (3, 0), (1, 1), (1, 3), (3, 1), (2, 2), (2, 3), (3, 2)]
DEEDS = [walk_shares, walk_back, walk_of_others, place_of_walk]
PUTS_AND_TAKES = [("put", 0), ("put", 0), ("put", 1), ("take", 0), ("take", 1), ("put", 1)]


def some_walk(box, one, k, chance):
    """The end and the steps of a walk of k steps in the box, by chance."""
    shares, share, steps = all_shares(*box), one, []
    for time in range(k):
        step, share = chance.choice(ways_from(share, shares))
        steps.append(step)
    return share, steps


def like_steps(steps):
    """Things that are like the list of steps, but are no walk."""
    things = [
        tuple(steps), dict(enumerate(steps)), {"steps": steps}, str(steps), [steps], (steps,), [list(step) for step in steps],
        [row for word, row in steps], [word for word, row in steps], steps + [None], [None] + steps, steps + [()],
        [(row, word) for word, row in steps], steps + [("put",)], steps + [[]], steps + [{}], steps + ["put"],
    ]
    for at, (word, row) in enumerate(steps):
        wrong = [
            None, True, 0, "put", word, row, (), (word,), (row,), [word, row], {word: row}, (word, row, row), (row, word),
            (word, str(row)), (word, None), (word, (row,)), (word, [row]), (word, -1), (word, -row - 1), (word, 20), (word, 21),
            ("PUT", row), ("Put", row), ("put ", row), ("", row), ("back", row), ("again", row), (None, row), (True, row),
            (["put"], row), (("put",), row), ({}, row), (0, row), (word + "s", row), (word, {}),
        ] + [(word, far) for far in FAR_NUMBERS]
        if row in (0, 1):
            wrong.append((word, bool(row)))
        things += [steps[:at] + [thing] + steps[at + 1:] for thing in wrong]
    return things


class IsWalk(GridCase):
    def test_all_walks_of_small_boxes(self):
        for box in SMALL_BOXES:
            shares = all_shares(*box)
            for one in shares:
                for k in range(4):
                    for end, walks in walks_gone_through(box, one, k).items():
                        for steps in walks:
                            for other in shares:
                                self.assertIs(other == end, is_walk(box, one, other, steps))

    def test_all_lists_of_few_steps(self):
        steps = [(word, row) for word in ("put", "take") for row in range(-1, 4)]
        lists = [[]] + [[step] for step in steps] + [[step, further] for step in steps for further in steps]
        for box in [(2, 2), (1, 3), (3, 1)]:
            for one in all_shares(*box):
                ends = [walks_gone_through(box, one, k) for k in range(3)]
                for other in all_shares(*box):
                    for thing in lists:
                        self.assertIs(thing in ends[len(thing)][other], is_walk(box, one, other, thing))

    def test_told(self):
        self.tells(True, is_walk, (2, 2), (), (2,), PUTS_AND_TAKES[:2])
        self.tells(True, is_walk, (2, 2), (), (1, 1), PUTS_AND_TAKES)
        self.tells(False, is_walk, (1, 2), (), (2,), PUTS_AND_TAKES)
        self.tells([(), (1,), (2,), (2, 1), (1, 1), (1,), (1, 1)], walk_shares, (2, 2), (), (1, 1), PUTS_AND_TAKES)

    def test_no_steps(self):
        for one in all_shares(2, 2) + [(20,) * 20]:
            for other in all_shares(2, 2) + [(20,) * 20]:
                self.tells(one == other, is_walk, (20, 20), one, other, [])
                if one == other:
                    self.tells([one], walk_shares, (20, 20), one, other, [])
                    self.tells([], walk_back, (20, 20), one, other, [])
                    self.tells([], walk_of_others, (20, 20), one, other, [])
                    self.tells(0, place_of_walk, (20, 20), one, other, [])
                else:
                    for deed in DEEDS:
                        self.refuses(NoWalk, deed, (20, 20), one, other, [])

    def test_whatever_is_none(self):
        for box, one, other in [((2, 2), (), (2, 1)), ((3, 3), (1,), (1, 1)), ((5, 5), (3, 1), ()), ((0, 0), (), ())]:
            for thing in WHATEVER + FAR_NUMBERS + [(), 0, 1, -1]:
                if thing != []:
                    self.tells(False, is_walk, box, one, other, thing)
                    for deed in DEEDS:
                        self.refuses(NoWalk, deed, box, one, other, thing)

    def test_whatever_is_like_one(self):
        chance = random.Random(21)
        for box, one, k in [((2, 2), (1,), 1), ((3, 3), (), 5), ((5, 5), (3, 2, 1), 8), ((2, 4), (4, 4), 6)]:
            other, steps = some_walk(box, one, k, chance)
            self.tells(True, is_walk, box, one, other, steps)
            for thing in like_steps(steps):
                self.tells(False, is_walk, box, one, other, thing)
                for deed in DEEDS:
                    self.refuses(NoWalk, deed, box, one, other, thing)

    def test_truths_are_no_rows(self):
        self.tells(True, is_walk, (2, 2), (), (1, 1), [("put", 0), ("put", 1)])
        for steps in [[("put", False), ("put", 1)], [("put", 0), ("put", True)]]:
            self.tells(False, is_walk, (2, 2), (), (1, 1), steps)
        self.tells(True, is_walk, (2, 2), (1, 1), (), [("take", 1), ("take", 0)])
        for steps in [[("take", True), ("take", 0)], [("take", 1), ("take", False)]]:
            self.tells(False, is_walk, (2, 2), (1, 1), (), steps)

    def test_steps_out_of_the_box(self):
        for steps in [
            [("put", 0), ("put", 0), ("take", 0)], [("put", 0), ("put", 1), ("take", 1)], [("take", 0), ("put", 0)],
            [("put", -1), ("take", -1)], [("put", 1), ("take", 1)],
        ]:
            self.tells(False, is_walk, (1, 1), (), (), steps)
            self.tells(False, is_walk, (1, 1), (1,), (1,), steps[:-1])
        self.tells(True, is_walk, (1, 2), (), (1,), [("put", 0), ("put", 0), ("take", 0)])
        self.tells(True, is_walk, (20, 20), (20,) * 20, (20,) * 20, [("take", 19), ("put", 19)])
        self.tells(False, is_walk, (20, 20), (20,) * 20, (20,) * 20, [("put", 20), ("take", 20)])

    def test_many_steps(self):
        steps = [("put", 0), ("take", 0)] * 500
        self.tells(True, is_walk, (5, 5), (), (), steps)
        self.tells(False, is_walk, (5, 5), (), (), steps[1:])
        self.tells([(), (1,)] * 500 + [()], walk_shares, (5, 5), (), (), steps)


class Refusals(GridCase):
    def test_what_does_not_fit(self):
        for box, one, other in [
            ((1, 1), (2,), ()), ((1, 1), (), (1, 1)), ((0, 5), (1,), (1,)), ((5, 0), (), (1,)), ((2, 3), (4,), (4,)),
            ((3, 2), (1,), (1, 1, 1, 1)), ((19, 20), (), (1,) * 20),
        ]:
            for thing in [[], [("put", 0)], None, (), True, "put", {}, 0, [[]], (("put", 0),)]:
                for function in [is_walk] + DEEDS:
                    self.refuses(NoFit, function, box, one, other, thing)
            for k in [0, 1, 2, 16]:
                self.refuses(NoFit, walks_between, box, one, other, k)
                for number in [0, -1, None, 10 ** 29]:
                    self.refuses(NoFit, walk_at, box, one, other, k, number)

    def test_no_box_goes_first(self):
        for box in NO_BOXES:
            for one, other, thing in [((), (), []), ((20,) * 20, (1,), None), ((), (20,) * 20, [("put", 0)])]:
                for function in [is_walk] + DEEDS:
                    self.refuses(NoBox, function, box, one, other, thing)
                self.refuses(NoBox, walks_between, box, one, other, 2)
                self.refuses(NoBox, walk_at, box, one, other, 2, 0)
                self.refuses(NoBox, walk_at, box, one, other, 2, None)


class WalkShares(GridCase):
    def test_share_by_share(self):
        chance = random.Random(22)
        for box, one in [((2, 2), ()), ((3, 4), (4, 2)), ((5, 5), (5, 3, 1)), ((1, 4), (2,)), ((4, 1), ())]:
            for k in [1, 2, 7, 16]:
                other, steps = some_walk(box, one, k, chance)
                shares = self.told(walk_shares, box, one, other, steps)
                self.assertEqual((k + 1, one, other), (len(shares), shares[0], shares[-1]))
                for ahead, share, (word, row) in zip(shares, shares[1:], steps):
                    less, more = (ahead, share) if word == "put" else (share, ahead)
                    self.assertTrue(cell_set(less) < cell_set(more))
                    self.assertEqual([row], [cell[0] for cell in cell_set(more) - cell_set(less)])


class HowMany(GridCase):
    def test_gone_through(self):
        for box in SMALL_BOXES + [(3, 3)]:
            for one in all_shares(*box)[::2]:
                for k in range(5):
                    for other, walks in walks_gone_through(box, one, k).items():
                        self.tells(len(walks), walks_between, box, one, other, k)

    def test_no_box_in_the_way(self):
        for box in [(0, 0), (1, 1), (2, 2), (3, 3), (3, 5), (4, 4), (5, 4), (5, 5)]:
            for other in all_shares(*box):
                for k in range(min(box) + 1):
                    self.tells(walks_to(other, k), walks_between, box, (), other, k)
        for k in [0, 7, 8]:
            for other in [(), (1,), (2, 1), (3, 3, 1), (8,)]:
                self.tells(walks_to(other, k), walks_between, (8, 8), (), other, k)

    def test_a_box_in_the_way(self):
        self.assertLess(walks_between((2, 2), (), (), 6), walks_to((), 6))
        self.tells(1, walks_between, (1, 1), (), (), 16)
        self.tells(1, walks_between, (1, 1), (), (1,), 15)
        self.tells(0, walks_between, (0, 0), (), (), 16)
        self.tells(1, walks_between, (0, 0), (), (), 0)

    def test_n_puts_then_n_takes(self):
        for n in range(5):
            walks = walks_gone_through((n, n), (), 2 * n)[()] if n < 4 else self.walks_by_number(n)
            turns = [steps for steps in walks if [word for word, row in steps] == ["put"] * n + ["take"] * n]
            self.assertEqual(math.factorial(n), len(turns))
            self.assertTrue(all(is_walk((n, n), (), (), steps) for steps in turns))

    def walks_by_number(self, n):
        many = walks_between((n, n), (), (), 2 * n)
        return [walk_at((n, n), (), (), 2 * n, number) for number in range(many)]

    def test_sixteen_steps_in_five_by_five_soon(self):
        begun = time.monotonic()
        many = self.told(walks_between, (5, 5), (3, 2, 1), (3, 2, 1), 16)
        self.assertLess(time.monotonic() - begun, 5)
        halves = [walks_between((5, 5), (3, 2, 1), share, 8) for share in all_shares(5, 5)]
        self.assertEqual(sum(half * half for half in halves), many)

    def test_the_sum_over_the_last_step(self):
        shares = all_shares(4, 5)
        for one, other in [((), (2, 1)), ((5, 5, 5, 5), (4, 4)), ((3, 1), (3, 1)), ((2, 2, 2), (5, 1))]:
            for k in [1, 2, 9, 10, 16]:
                expected = sum(walks_between((4, 5), one, left, k - 1) for step, left in ways_from(other, shares))
                self.tells(expected, walks_between, (4, 5), one, other, k)

    def test_odd(self):
        for box in [(2, 2), (5, 5)]:
            for one in [(), (1,), (2, 1), (2, 2)]:
                for other in [(), (1,), (1, 1), (2, 2)]:
                    for k in range(17):
                        if (k - sum(one) - sum(other)) % 2:
                            self.tells(0, walks_between, box, one, other, k)

    def test_too_few_steps(self):
        for k in range(25):
            self.tells(0, walks_between, (5, 5), (), (5,) * 5, k)
        self.tells(0, walks_between, (5, 5), (5,), (1,) * 5, 6)
        for k in [-1, -2]:
            self.tells(0, walks_between, (3, 3), (), (), k)

    def test_from_behind_turned_about_and_by_the_others(self):
        for one, other in [((), (2, 1)), ((4, 4), (3, 3, 1)), ((2, 2, 2), (4, 1))]:
            for k in range(12):
                many = walks_between((3, 4), one, other, k)
                self.assertEqual(many, walks_between((3, 4), other, one, k))
                self.assertEqual(many, walks_between((4, 3), turned_share(one), turned_share(other), k))
                ends = other_share((3, 4), one), other_share((3, 4), other)
                self.assertEqual(many, walks_between((3, 4), *ends, k))


class BackAndOthers(GridCase):
    def test_told(self):
        steps = [("put", 0), ("put", 1), ("take", 1)]
        self.tells([("put", 1), ("take", 1), ("take", 0)], walk_back, (3, 2), (), (1,), steps)
        self.tells([("take", 2), ("take", 1), ("put", 1)], walk_of_others, (3, 2), (), (1,), steps)

    def test_all_walks_of_small_boxes(self):
        for box in SMALL_BOXES:
            for one in all_shares(*box):
                for k in range(4):
                    for other, walks in walks_gone_through(box, one, k).items():
                        for steps in walks[:5]:
                            self.check(box, one, other, steps)

    def test_longer_walks(self):
        chance = random.Random(24)
        for box, one in [((5, 5), ()), ((5, 5), full_share((5, 5))), ((4, 5), (5, 2)), ((1, 5), (3,)), ((6, 2), (2, 1))]:
            for k in [6, 15, 16]:
                other, steps = some_walk(box, one, k, chance)
                self.check(box, one, other, steps)

    def check(self, box, one, other, steps):
        back = self.told(walk_back, box, one, other, steps)
        self.assertTrue(is_walk(box, other, one, back))
        self.assertEqual(walk_shares(box, one, other, steps)[::-1], walk_shares(box, other, one, back))
        self.tells(steps, walk_back, box, other, one, back)
        others = self.told(walk_of_others, box, one, other, steps)
        ends = other_share(box, one), other_share(box, other)
        self.assertTrue(is_walk(box, *ends, others))
        turned = [other_share(box, share) for share in walk_shares(box, one, other, steps)]
        self.assertEqual(turned, walk_shares(box, *ends, others))
        self.tells(steps, walk_of_others, box, *ends, others)
