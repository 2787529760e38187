"""Promise [19]: fillings, of a chain and back, and turned about."""

import itertools
import random

from gridshares.chainplaces import chain_at
from gridshares.chains import chains_between, is_chain
from gridshares.errors import NoChain, NoFilling, NoFit
from gridshares.fillings import chain_of, filling_of, is_filling, turned_filling
from gridshares.fillplaces import filling_at, place_of_filling
from gridshares.shares import turned_share
from tests.common import (
    FAR_NUMBERS, WHATEVER, GridCase, all_shares, cell_set, chains_gone_through, no_such_lists,
)

SMALL = all_shares(3, 3)
PAIRS = [(one, other) for one in SMALL for other in SMALL]
WITHIN = [(one, other) for one, other in PAIRS if cell_set(one) <= cell_set(other)]
NOT_WITHIN = [(one, other) for one, other in PAIRS if not cell_set(one) <= cell_set(other)]
GREAT = [((), (6,) * 6), ((1,), (6, 5, 4, 3, 2, 1)), ((3, 3), (6, 6, 6)), ((2, 1), (6, 3, 3, 1, 1, 1)), ((5, 4), (6,) * 6)]


def cells_between(one, other):
    return sorted(cell_set(other) - cell_set(one))


def shaped(cells, numbers, high):
    """The numbers, cell by cell, as a tuple of a tuple for each row."""
    rows = [[] for row in range(high)]
    for (row, column), number in zip(cells, numbers):
        rows[row].append(number)
    return tuple(tuple(row) for row in rows)


def numbers_by_cell(one, other, filling):
    return dict(zip(cells_between(one, other), [number for row in filling for number in row]))


def rises(cells):
    """Whether the numbers of a dict by cell rise to the right and downwards."""
    return all(
        cells[cell] < cells[further]
        for cell in cells for further in [(cell[0], cell[1] + 1), (cell[0] + 1, cell[1])] if further in cells
    )


def some_filling(one, other, chance):
    return filling_of(one, other, chain_at(one, other, chance.randrange(chains_between(one, other))))


class IsFilling(GridCase):
    def test_all_orders_of_the_numbers(self):
        for one, other in WITHIN:
            cells = cells_between(one, other)
            if len(cells) <= 5:
                for numbers in itertools.permutations(range(1, len(cells) + 1)):
                    filling = shaped(cells, numbers, len(other))
                    self.assertIs(rises(dict(zip(cells, numbers))), is_filling(one, other, filling), filling)

    def test_more_cells(self):
        chance = random.Random(19)
        for one, other in GREAT:
            filling = some_filling(one, other, chance)
            self.tells(True, is_filling, one, other, filling)
            cells, numbers = cells_between(one, other), [number for row in filling for number in row]
            for time in range(60):
                ahead, after = sorted(chance.sample(range(len(cells)), 2))
                swapped = list(numbers)
                swapped[ahead], swapped[after] = numbers[after], numbers[ahead]
                expected = rises(dict(zip(cells, swapped)))
                self.tells(expected, is_filling, one, other, shaped(cells, swapped, len(other)))

    def test_told(self):
        self.tells(True, is_filling, (), (), ())
        self.tells(True, is_filling, (), (2, 1), ((1, 2), (3,)))
        self.tells(True, is_filling, (), (2, 1), ((1, 3), (2,)))
        self.tells(False, is_filling, (), (2, 1), ((2, 3), (1,)))
        self.tells(True, is_filling, (1,), (2, 1), ((2,), (1,)))
        self.tells(True, is_filling, (2,), (2, 1), ((), (1,)))
        self.tells(True, is_filling, (3, 1), (3, 1), ((), ()))
        self.tells(False, is_filling, (3, 1), (3, 1), ())
        self.tells(False, is_filling, (3, 1), (3, 1), ((),))
        self.tells(False, is_filling, (3, 1), (3, 1), ((), (), ()))
        self.tells(False, is_filling, (), (), ((),))

    def test_whatever_is_none(self):
        for one, other in [((), (2, 1)), ((1,), (3, 2)), ((2,), (2, 1, 1)), ((), (6,) * 6), ((), (1, 1, 1))]:
            for thing in WHATEVER + FAR_NUMBERS + [(), 0, 1, [()], ((),), ((), (), (), ())]:
                self.tells(False, is_filling, one, other, thing)
                self.refuses(NoFilling, chain_of, one, other, thing)
                self.refuses(NoFilling, turned_filling, one, other, thing)
                self.refuses(NoFilling, place_of_filling, one, other, thing)

    def test_whatever_is_like_one(self):
        chance = random.Random(7)
        for one, other in [((), (2, 1)), ((1,), (2, 2)), ((), (1,)), ((1, 1), (3, 1, 1)), ((), (3, 2, 1))] + GREAT[:2]:
            filling = some_filling(one, other, chance)
            self.tells(True, is_filling, one, other, filling)
            for thing in self.spoilt(filling):
                self.tells(False, is_filling, one, other, thing)
                self.refuses(NoFilling, chain_of, one, other, thing)
                self.refuses(NoFilling, turned_filling, one, other, thing)
                self.refuses(NoFilling, place_of_filling, one, other, thing)

    def spoilt(self, filling):
        """Things that are like the filling."""
        things = [
            list(filling), [list(row) for row in filling], dict(enumerate(filling)), str(filling), (filling,),
            filling + ((),), ((),) + filling, filling[:-1], filling[1:], filling + ((1,),),
            tuple(number for row in filling for number in row), tuple(list(row) for row in filling),
            tuple(tuple(number - 1 for number in row) for row in filling),
            tuple(tuple(number + 1 for number in row) for row in filling),
            tuple(tuple(-number for number in row) for row in filling),
        ]
        many = sum(len(row) for row in filling)
        for at, row in enumerate(filling):
            for wrong in [list(row), None, True, 1, "1", {}, row + (1,), row + (many + 1,), (0,) + row, (row,)]:
                things.append(filling[:at] + (wrong,) + filling[at + 1:])
            for place, number in enumerate(row):
                for wrong in [None, str(number), (number,), [number], {}, 0, -number, many + 1, True, False, *FAR_NUMBERS]:
                    spoilt = row[:place] + (wrong,) + row[place + 1:]
                    things.append(filling[:at] + (spoilt,) + filling[at + 1:])
        return things

    def test_a_number_twice(self):
        for filling in [((1, 2), (2,)), ((1, 1), (2,)), ((1, 3), (3,)), ((1, 2), (1,)), ((1, 2), (4,))]:
            self.tells(False, is_filling, (), (2, 1), filling)
            self.refuses(NoFilling, chain_of, (), (2, 1), filling)

    def test_a_truth_in_the_place_of_one(self):
        self.tells(True, is_filling, (), (2,), ((1, 2),))
        self.tells(False, is_filling, (), (2,), ((True, 2),))
        self.refuses(NoFilling, chain_of, (), (2,), ((True, 2),))
        self.refuses(NoFilling, place_of_filling, (), (1,), ((True,),))


class ChainAndFilling(GridCase):
    def test_the_number_of_the_step_in_the_cell_that_comes(self):
        for one, other in WITHIN:
            for rows in chains_gone_through(one, other):
                filling = self.told(filling_of, one, other, rows)
                self.assertTrue(is_filling(one, other, filling))
                cells = numbers_by_cell(one, other, filling)
                self.assertEqual(rows, [row for number, row in sorted((cells[cell], cell[0]) for cell in cells)])
                self.tells(rows, chain_of, one, other, filling)

    def test_each_to_one(self):
        for one, other in WITHIN[::5]:
            fillings = {filling_of(one, other, rows) for rows in chains_gone_through(one, other)}
            self.assertEqual(chains_between(one, other), len(fillings))

    def test_told(self):
        self.tells((), filling_of, (), (), [])
        self.tells([], chain_of, (), (), ())
        self.tells(((1, 3), (2,)), filling_of, (), (2, 1), [0, 1, 0])
        self.tells([0, 1, 0], chain_of, (), (2, 1), ((1, 3), (2,)))
        self.tells(((), (1,), ()), filling_of, (2, 1, 1), (2, 2, 1), [1])
        self.tells([1], chain_of, (2, 1, 1), (2, 2, 1), ((), (1,), ()))
        self.tells(((), ()), filling_of, (3, 1), (3, 1), [])

    def test_great_shares(self):
        chance = random.Random(6)
        for one, other in GREAT:
            filling = some_filling(one, other, chance)
            rows = self.told(chain_of, one, other, filling)
            self.assertTrue(is_chain(one, other, rows))
            self.tells(filling, filling_of, one, other, rows)

    def test_no_chain(self):
        for one, other in [((), (2, 1)), ((1,), (3, 2)), ((), (6,) * 6)]:
            for thing in WHATEVER + FAR_NUMBERS + [(), 0] + no_such_lists(chain_at(one, other, 1)):
                self.refuses(NoChain, filling_of, one, other, thing)
        for thing in [(), None, [0], {}, "", False]:
            self.refuses(NoChain, filling_of, (), (), thing)


class Turned(GridCase):
    def test_each_number_in_its_cell_turned(self):
        for one, other in WITHIN:
            for rows in chains_gone_through(one, other)[:8]:
                self.check(one, other, filling_of(one, other, rows))
        chance = random.Random(9)
        for one, other in GREAT:
            self.check(one, other, some_filling(one, other, chance))

    def check(self, one, other, filling):
        turned = self.told(turned_filling, one, other, filling)
        ends = turned_share(one), turned_share(other)
        self.assertTrue(is_filling(*ends, turned))
        cells = numbers_by_cell(one, other, filling)
        self.assertEqual({(column, row): cells[row, column] for row, column in cells}, numbers_by_cell(*ends, turned))
        self.tells(filling, turned_filling, *ends, turned)

    def test_told(self):
        self.tells(((1, 2), (3,)), turned_filling, (), (2, 1), ((1, 3), (2,)))
        self.tells((), turned_filling, (), (), ())
        self.tells(((), (1,)), turned_filling, (1, 1), (2, 1), ((1,), ()))
        self.tells(((), (), ()), turned_filling, (3, 1), (3, 1), ((), ()))


class NotWithin(GridCase):
    def test_no_fit_goes_first(self):
        for one, other in NOT_WITHIN + [((1,), ()), ((6,) * 6, (6,) * 5), ((2, 2), (6, 1, 1))]:
            for thing in [(), ((),), ((1,),), [], [0], 0, -1, None, True, "1", 10 ** 29, {}]:
                for function in [is_filling, filling_of, chain_of, turned_filling, filling_at, place_of_filling]:
                    self.refuses(NoFit, function, one, other, thing)

    def test_whatever_is_handed_in_with_it(self):
        for thing in WHATEVER + FAR_NUMBERS:
            for function in [is_filling, filling_of, chain_of, turned_filling, filling_at, place_of_filling]:
                self.refuses(NoFit, function, (2, 1), (3,), thing)
