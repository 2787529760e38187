"""Promise [35]: a keeper of a share, its deeds, back and again; of [3], that a kept share is what its deeds make it."""

import random

from gridshares.boxes import full_share
from gridshares.chains import chains_between
from gridshares.errors import NoBack, NoBox, NoFit, NoRow
from gridshares.keeper import Keeper
from gridshares.places import place_of
from gridshares.walks import is_walk, walk_shares
from tests.common import BOXES, FAR_NUMBERS, NO_BOXES, WHATEVER, GridCase, all_shares, ways_from

NO_ROWS = WHATEVER + FAR_NUMBERS + [-1, -2, 7, 20, 21, 100, (), (0,), (1,), ("put", 0), {0: 0}]


def rows_of(box, share, word):
    """The rows at which a cell may be put in, or taken out, gone through."""
    return sorted(row for (way, row), left in ways_from(share, all_shares(*box)) if way == word)


def share_left(box, share, step):
    return dict(ways_from(share, all_shares(*box)))[step]


class KeeperCase(GridCase):
    def stands(self, keeper, box, share, trail):
        """Share, number, chains and trail are as they should be, and asking changes nothing."""
        self.tells(share, keeper.share)
        self.tells(trail, keeper.trail)
        self.tells(place_of(box, share), keeper.place)
        self.tells(chains_between((), share), keeper.chains_here)
        self.tells(chains_between(share, full_share(box)), keeper.chains_on)

    def does(self, keeper, box, word, row):
        """The deed tells the rows behind it; what it tells is the asker's own."""
        told = keeper.put(row) if word == "put" else keeper.take(row)
        self.told_rows(keeper, box, told)

    def told_rows(self, keeper, box, told):
        rows = rows_of(box, keeper.share(), "put"), rows_of(box, keeper.share(), "take")
        self.assertEqual(repr(rows), repr(told))
        for some in told:
            some.append("spoiled")


class Deeds(KeeperCase):
    def test_new_ones(self):
        for box in BOXES:
            for share in all_shares(*box)[::5] + [full_share(box)]:
                self.stands(Keeper(box, share), box, share, [])

    def test_each_deed_of_small_boxes(self):
        for box in [(0, 0), (0, 3), (3, 0), (1, 1), (2, 2), (2, 3), (3, 3), (4, 2)]:
            for share in all_shares(*box):
                for word in ["put", "take"]:
                    for row in range(-1, 6):
                        keeper = Keeper(box, share)
                        if row in rows_of(box, share, word):
                            self.does(keeper, box, word, row)
                            self.stands(keeper, box, share_left(box, share, (word, row)), [(word, row)])
                        else:
                            self.refuses(NoRow, keeper.put if word == "put" else keeper.take, row)
                            self.stands(keeper, box, share, [])

    def test_told(self):
        keeper = Keeper((3, 3), (2, 1))
        self.assertEqual(([0, 2], [1]), keeper.put(1))
        self.assertEqual(([0, 1, 2], [0, 1]), keeper.back())
        self.assertEqual(([0, 2], [1]), keeper.again())
        self.assertEqual(([1, 2], [0, 1]), keeper.put(0))
        self.assertEqual([("put", 1), ("put", 0)], keeper.trail())
        self.assertEqual((3, 2), keeper.share())
        self.assertEqual(5, keeper.chains_here())
        self.assertEqual(3, keeper.chains_on())
        self.assertEqual(2, keeper.place())

    def test_whatever_is_no_row(self):
        for box, share in [((0, 0), ()), ((1, 1), ()), ((2, 2), (1,)), ((3, 3), (3, 1)), ((6, 6), (6, 5, 4, 3, 2, 1))]:
            keeper = Keeper(box, share)
            for thing in NO_ROWS:
                self.refuses(NoRow, keeper.put, thing)
                self.refuses(NoRow, keeper.take, thing)
            self.stands(keeper, box, share, [])

    def test_a_truth_is_no_row(self):
        keeper = Keeper((3, 3), (2, 1))
        for thing in [False, True]:
            self.refuses(NoRow, keeper.put, thing)
            self.refuses(NoRow, keeper.take, thing)
        keeper.put(1)
        keeper.back()
        self.refuses(NoRow, keeper.put, True)
        self.assertEqual(([0, 2], [1]), keeper.again())

    def test_rows_out_of_the_box(self):
        keeper = Keeper((2, 3), (3, 1))
        for row in [0, 2, 3]:
            self.refuses(NoRow, keeper.put, row)
        self.does(keeper, (2, 3), "put", 1)


class BackAndAgain(KeeperCase):
    def test_nothing_to_take_back(self):
        for box in BOXES[::4]:
            keeper = Keeper(box, ())
            for time in range(2):
                self.refuses(NoBack, keeper.back)
                self.refuses(NoBack, keeper.again)
            self.stands(keeper, box, (), [])

    def test_all_back_and_all_again(self):
        chance = random.Random(35)
        for box, share in [((6, 6), ()), ((6, 6), (3, 2, 1)), ((2, 5), (4, 1)), ((1, 1), (1,)), ((5, 1), (1, 1)), ((4, 4), (4,) * 4)]:
            keeper, shares, steps = Keeper(box, share), [share], []
            for time in range(12):
                step, left = chance.choice(ways_from(shares[-1], all_shares(*box)))
                self.does(keeper, box, *step)
                shares.append(left)
                steps.append(step)
                self.stands(keeper, box, left, steps)
            self.assertEqual(shares, walk_shares(box, share, keeper.share(), keeper.trail()))
            self.refuses(NoBack, keeper.again)
            for many in reversed(range(12)):
                self.told_rows(keeper, box, keeper.back())
                self.stands(keeper, box, shares[many], steps[:many])
            self.refuses(NoBack, keeper.back)
            for many in range(1, 13):
                self.told_rows(keeper, box, keeper.again())
                self.stands(keeper, box, shares[many], steps[:many])
            self.refuses(NoBack, keeper.again)
            self.stands(keeper, box, shares[-1], steps)

    def test_one_by_one(self):
        keeper = Keeper((3, 3), ())
        keeper.put(0)
        for time in range(3):
            keeper.put(1)
            self.told_rows(keeper, (3, 3), keeper.back())
            self.stands(keeper, (3, 3), (1,), [("put", 0)])
            self.told_rows(keeper, (3, 3), keeper.again())
            self.stands(keeper, (3, 3), (1, 1), [("put", 0), ("put", 1)])
            self.refuses(NoBack, keeper.again)
            keeper.back()

    def test_a_new_deed_forgets_what_might_be_done_again(self):
        for word, row in [("put", 0), ("put", 1), ("take", 0)]:
            keeper = Keeper((3, 3), (1,))
            keeper.put(0)
            keeper.put(0)
            keeper.back()
            keeper.back()
            self.does(keeper, (3, 3), word, row)
            self.refuses(NoBack, keeper.again)
            share = share_left((3, 3), (1,), (word, row))
            self.stands(keeper, (3, 3), share, [(word, row)])
            keeper.back()
            keeper.again()
            self.refuses(NoBack, keeper.again)
            self.stands(keeper, (3, 3), share, [(word, row)])

    def test_a_refused_deed_forgets_nothing(self):
        for thing in NO_ROWS:
            keeper = Keeper((3, 3), (2,))
            keeper.put(0)
            keeper.put(1)
            keeper.back()
            keeper.back()
            self.refuses(NoRow, keeper.put, thing)
            self.refuses(NoRow, keeper.take, thing)
            self.refuses(NoBack, keeper.back)
            keeper.again()
            self.refuses(NoRow, keeper.take, thing)
            keeper.again()
            self.refuses(NoBack, keeper.again)
            self.stands(keeper, (3, 3), (3, 1), [("put", 0), ("put", 1)])

    def test_deeds_by_chance(self):
        chance = random.Random(36)
        for box in [(6, 6), (3, 3), (2, 2), (1, 4), (4, 1), (0, 2)]:
            start = chance.choice(all_shares(*box))
            keeper, done, gone, share = Keeper(box, start), [], [], start
            for time in range(120):
                deed = chance.choice(["put", "put", "take", "back", "back", "again"])
                row = chance.randrange(-1, 8)
                if deed == "back" and not done or deed == "again" and not gone:
                    self.refuses(NoBack, keeper.back if deed == "back" else keeper.again)
                elif deed == "back":
                    self.told_rows(keeper, box, keeper.back())
                    gone.append(done.pop())
                elif deed == "again":
                    self.told_rows(keeper, box, keeper.again())
                    done.append(gone.pop())
                elif row in rows_of(box, share, deed):
                    self.does(keeper, box, deed, row)
                    done, gone = done + [(deed, row)], []
                else:
                    self.refuses(NoRow, keeper.put if deed == "put" else keeper.take, row)
                self.assertTrue(is_walk(box, start, keeper.share(), done))
                share = keeper.share()
                self.stands(keeper, box, share, done)

    def test_many_deeds(self):
        keeper = Keeper((6, 6), ())
        for time in range(1000):
            keeper.put(0)
            keeper.take(0)
        for time in range(2000):
            keeper.back()
        self.refuses(NoBack, keeper.back)
        for time in range(2000):
            keeper.again()
        self.assertEqual([("put", 0), ("take", 0)] * 1000, keeper.trail())


class Apart(KeeperCase):
    def test_told_lists_that_are_changed(self):
        keeper = Keeper((3, 3), (1,))
        ins, outs = keeper.put(0)
        ins.clear()
        outs.append(7)
        trail = keeper.trail()
        trail.append(("put", 0))
        trail[0] = None
        self.stands(keeper, (3, 3), (2,), [("put", 0)])
        self.assertEqual(([0, 1], [0]), keeper.back())
        self.assertEqual(([0, 1], [0]), keeper.again())

    def test_a_told_trail_stays_as_it_was(self):
        keeper = Keeper((3, 3), ())
        trails = [keeper.trail()]
        for row in [0, 0, 1]:
            keeper.put(row)
            trails.append(keeper.trail())
        keeper.back()
        self.assertEqual([0, 1, 2, 3], [len(trail) for trail in trails])

    def test_two_beside_one_another(self):
        one, other = Keeper((3, 3), (1,)), Keeper((3, 3), (1,))
        one.put(0)
        one.put(0)
        other.put(1)
        one.back()
        self.stands(one, (3, 3), (2,), [("put", 0)])
        self.stands(other, (3, 3), (1, 1), [("put", 1)])
        self.refuses(NoBack, other.again)
        self.told_rows(one, (3, 3), one.again())
        other.back()
        self.refuses(NoBack, other.back)
        self.stands(one, (3, 3), (3,), [("put", 0), ("put", 0)])


class Refusals(GridCase):
    def test_no_box(self):
        for box in NO_BOXES:
            for share in [(), (1,), (20,) * 20]:
                self.refuses(NoBox, Keeper, box, share)

    def test_no_fit(self):
        for box, share in [((0, 0), (1,)), ((1, 1), (2,)), ((1, 1), (1, 1)), ((6, 6), (7,)), ((6, 6), (1,) * 7), ((2, 3), (4, 1))]:
            self.refuses(NoFit, Keeper, box, share)
