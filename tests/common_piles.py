"""What the tests of piles share: piles gone through one by one, great ones, and things that are none."""

from tests.common import FAR_NUMBERS, WHATEVER, all_shares, cell_set, deep

SIX = (6,) * 6
STAIRS = (6, 5, 4, 3, 2, 1)
GREAT = [
    (SIX,) * 6, (SIX,), (STAIRS,) * 3, (SIX, STAIRS, (6, 1), (1,)), ((1,),) * 6, ((6,),) * 6, ((1,) * 6,) * 6,
    ((5, 5, 2), (4, 2, 2), (4, 2), (1, 1), (1,)),
]
# None of these is a pile.
NO_PILES = [
    None, True, False, 0, 1, -1, "", "1", "none", [], [(1,)], [[1]], {}, {0: (1,)}, [()], (1,), (0,), (1, 1), (True,), (None,),
    ("1",), ("",), ((),), ((), ()), ((1,), ()), ((), (1,)), ((1,), (), (1,)), ((1,), (2,)), ((1,), (1, 1)), ((2, 1), (2, 2)),
    ((3,), (1, 1)), ((1, 1), (2,)), ((2,), (1,), (2,)), ((1,),) * 7, ((7,),), ((1,) * 7,), ((7, 1), (1,)), ((20,) * 20,),
    ([1],), ([1], [1]), [(1,), (1,)], ((1,), [1]), ([1, 1], (1,)), ((True,),), ((1,), (True,)), ((2, True),), ((False,),),
    ((0,),), ((1, 0),), ((1, 2),), ((-1,),), ((1,), (0,)), (("1",),), ((None,),), (((1,),),), (((1,),), (1,)), ((1,), 1),
    (1, (1,)), ((1,), None), ((1,), "1"), ((1,), {}), ({},), ({0: 1},), ((1,),) * 1000, ((1,) * 1000,), ((21,),),
    ((10 ** 29,),), ((-10 ** 29,),), deep((1,), lambda thing: (thing,), 11), deep((1,), lambda thing: [thing], 11),
] + FAR_NUMBERS
NO_DEEP_BOXES = [
    None, True, False, 0, 3, "", "1x1x1", (), (1,), (1, 1), (1, 1, 1, 1), [1, 1, 1], {}, {0: 1, 1: 1, 2: 1}, (True, 1, 1),
    (1, True, 1), (1, 1, True), (False, 0, 0), (0, 0, False), (7, 1, 1), (1, 7, 1), (1, 1, 7), (7, 7, 7), (-1, 1, 1),
    (1, -1, 1), (1, 1, -1), (None, 1, 1), (1, "1", 1), (1, 1, (1,)), (1, 1, [1]), ((1, 1), 1), ((1, 1, 1),), [(1, 1, 1)],
    (20, 20, 20), (10 ** 29, 1, 1), (1, 1, -10 ** 29), "111", ("1", "1", "1"), ((), (), ()),
] + [thing for thing in WHATEVER if thing != (0, 1, 2)] + FAR_NUMBERS


def piles_gone_through(high, wide, layers):
    """All piles of the box of three ways."""
    shares = [share for share in all_shares(high, wide) if share]
    piles = [()]
    for layer in range(layers):
        piles += [
            pile + (share,)
            for pile in piles if len(pile) == layer
            for share in shares if not pile or cell_set(share) <= cell_set(pile[-1])
        ]
    return piles


SMALL = piles_gone_through(2, 2, 2) + piles_gone_through(1, 3, 3) + piles_gone_through(3, 2, 1)


def cells_of_pile(pile):
    return {(row, column, layer) for layer, share in enumerate(pile) for row, column in cell_set(share)}
