"""What the tests share: a test case that watches promise [2], things of every kind, shares gone through one by one."""

import copy
import itertools
import unittest

from gridshares import errors

REFUSALS = [
    errors.NoShare, errors.NoBox, errors.NoFit, errors.NoNumber, errors.NoRow, errors.NoCell,
    errors.NoChain, errors.NoSquare, errors.NoFilling, errors.NoWalk, errors.NoStack, errors.NoPile,
    errors.NoWay, errors.NoBack, errors.NoText, errors.NoWord,
]


def deep(thing, wrap, times=12):
    for step in range(times):
        thing = wrap(thing)
    return thing


# No whole number, no share, no box, no cell: so refused, or False, wherever one of these is asked for.
WHATEVER = [
    None, True, False, "", "0", "1", "11", "(1, 1)", "1x1", "put", "~" * 4000, "a\nb",
    (None,), (True,), (False,), (False, False), (True, True), (True, False), (1, True), (False, 0), (0, True),
    ("1",), ("1", "1"), ("", ""), (None, None), ([], []), ({}, {}), ((), ()), ((1, 1),), ((1,), (1,)), ([1, 1],),
    (1, None), (1, "1"), (1, (1,)), (1, [1]), (1, {}), (None, 1), ("1", 1), ([1], 1), (0, 1, 2),
    [], [0], [1], [1, 1], [2, 1], [0, 0], [True, True], [None], ["1", "1"], [(1, 1)], [[1, 1]], [[]], [{}],
    {}, {0: 1}, {1: 1}, {"high": 1, "wide": 1}, {(1, 1): [1]}, {None: None},
    deep(1, lambda thing: [thing]), deep(1, lambda thing: (thing,)), deep(1, lambda thing: {1: thing}),
    deep((), lambda thing: (thing, thing), 6), [1] * 1000, (1,) * 1000, (0,) * 1000, "11" * 2000,
]

FAR_NUMBERS = [10 ** 29, -10 ** 29, 10 ** 30 - 1, 1 - 10 ** 30]

NO_BOXES = WHATEVER + FAR_NUMBERS + [
    0, 1, 2, -1, (), (0,), (1,), (1, 1, 1), (0, 0, 0), (-1, 0), (0, -1), (-1, -1), (21, 0), (0, 21), (21, 21), (20, 21),
    (21, 20), (10 ** 29, 1), (1, 10 ** 29), (-10 ** 29, 1), (1, -10 ** 29),
]

BOXES = [(high, wide) for high in range(7) for wide in range(7)]
GREAT_BOXES = [
    (0, 20), (20, 0), (1, 20), (20, 1), (2, 20), (20, 2), (7, 20), (20, 7), (13, 17), (19, 20), (20, 19), (20, 20),
]


def all_shares(high, wide):
    """All shares of a box, gone through: every falling list of lengths, noughts cut off."""
    lengths = itertools.combinations_with_replacement(range(wide, -1, -1), high)
    return sorted({tuple(length for length in row if length) for row in lengths})


def cell_set(share):
    return {(row, column) for row in range(len(share)) for column in range(share[row])}


def with_cell(share, row):
    """The rows of the share with a cell more at the row, whatever they then are."""
    rows = list(share) + [0] * (row + 1 - len(share))
    rows[row] += 1
    return tuple(rows)


def chains_gone_through(one, other):
    """All chains from one to other, gone through cell by cell, in the order of lists."""
    if one == other:
        return [[]]
    chains = []
    for row in range(len(one) + 1):
        more = with_cell(one, row)
        if list(more) == sorted(more, reverse=True) and cell_set(more) <= cell_set(other):
            chains += [[row] + rest for rest in chains_gone_through(more, other)]
    return chains


def walks_gone_through(box, one, k):
    """A dict, by the share they lead to, of all walks of k steps in the box from one, each gone through, rising."""
    high, wide = box
    shares = all_shares(high, wide)
    walks = [(one, [])]
    for step in range(k):
        walks = [(left, steps + [way]) for share, steps in walks for way, left in ways_from(share, shares)]
    ends = {share: [] for share in shares}
    for share, steps in sorted(walks):
        ends[share].append(steps)
    return ends


def ways_from(share, shares):
    """The steps from the share to those of the shares that have a cell more or less."""
    ways = []
    for left in shares:
        more, less = cell_set(left) - cell_set(share), cell_set(share) - cell_set(left)
        if len(more) + len(less) == 1:
            word = "put" if more else "take"
            ways.append(((word, min(more | less)[0]), left))
    return ways


def stacks_gone_through(one, other, k):
    """All stacks of k shares from one to other, gone through share by share, in the order of lists."""
    if not cell_set(one) <= cell_set(other):
        return []
    if k == 0:
        return [[]]
    shares = all_shares(len(other), max((0,) + other))
    return [
        [share] + rest
        for share in shares if cell_set(one) <= cell_set(share)
        for rest in stacks_gone_through(share, other, k - 1)
    ]


def no_such_lists(numbers):
    """Things that are like the list of numbers, but are no list of these numbers."""
    things = [
        tuple(numbers), dict(enumerate(numbers)), {"rows": numbers}, "".join(str(number) for number in numbers),
        str(numbers), [numbers], (numbers,), [tuple(numbers)], [None] + numbers, numbers + [None], numbers + ["0"],
    ]
    for at, number in enumerate(numbers):
        for thing in [None, str(number), (number,), [number], {}, {number: number}, -1, -20, -number - 1, 21, *FAR_NUMBERS]:
            things.append(numbers[:at] + [thing] + numbers[at + 1:])
        if number in (0, 1):
            things.append(numbers[:at] + [bool(number)] + numbers[at + 1:])
    return things


def spoil(told):
    """Change all lists and dicts of what was told."""
    if isinstance(told, (list, tuple)):
        for thing in told:
            spoil(thing)
    if isinstance(told, list):
        told.reverse()
        told.append("spoiled")
    if isinstance(told, dict):
        told.clear()


class GridCase(unittest.TestCase):
    def told(self, function, *handed):
        """What the function tells: told again alike, though the first answer was spoiled; what was handed in, as it was."""
        before = repr(handed)
        first = function(*handed)
        kept = copy.deepcopy(first)
        spoil(first)
        again = function(*handed)
        self.assertEqual(repr(kept), repr(again), (function, before))
        self.assertEqual(before, repr(handed), function)
        return kept

    def tells(self, expected, function, *handed):
        # By what it shows: 1 and True are alike to Python, but a truth is no number.
        self.assertEqual(repr(expected), repr(self.told(function, *handed)), (function, handed))

    def refuses(self, refusal, function, *handed):
        """The refusal is of its own class and no other; what was handed in stays as it was."""
        before = repr(handed)
        with self.assertRaises(errors.GridError, msg=(function, handed)) as caught:
            function(*handed)
        error = caught.exception
        self.assertIsInstance(error, ValueError)
        self.assertEqual([refusal], [one for one in REFUSALS if isinstance(error, one)], (function, handed))
        self.assertEqual(before, repr(handed), function)
