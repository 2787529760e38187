"""Piles of shares in a box of three ways: what is one, what fits, its cells, the pile of cells, and the other one."""

from gridshares.boxes import fits_in, other_share
from gridshares.errors import NoBox, NoFit, NoPile
from gridshares.orders import lies_within
from gridshares.shares import cells_of, is_share
from gridshares.wholes import is_whole_from

LONGEST_WAY = 6


def is_pile(thing):
    """Whether the thing is a pile, whatever it is."""
    if not isinstance(thing, tuple) or len(thing) > LONGEST_WAY:
        return False
    if not all([is_layer(layer) for layer in thing]):
        return False
    return all([lies_within(over, under) for under, over in zip(thing, thing[1:])])


def is_layer(thing):
    """Whether the thing is a share that isn't empty, of at most six rows of at most six, whatever it is."""
    return is_share(thing) and thing != () and fits_in((LONGEST_WAY, LONGEST_WAY), thing)


def need_pile(thing):
    """Refuse whatever is no pile."""
    if not is_pile(thing):
        raise NoPile("this is no pile")


def is_deep_box(thing):
    """Whether the thing is a box of three ways, whatever it is."""
    if not isinstance(thing, tuple) or len(thing) != 3:
        return False
    return all([is_whole_from(0, LONGEST_WAY, side) for side in thing])


def need_deep_box(thing):
    """Refuse whatever is no box of three ways."""
    if not is_deep_box(thing):
        raise NoBox("this is no box of three ways")


def pile_fits(box, pile):
    """Whether the pile fits the box of three ways."""
    need_pile(pile)
    need_deep_box(box)
    high, wide, deep = box
    return len(pile) <= deep and all([fits_in((high, wide), layer) for layer in pile])


def need_pile_fit(box, pile):
    """Refuse what is no pile, then what is no box, then a pile that doesn't fit it."""
    if not pile_fits(box, pile):
        raise NoFit("the pile doesn't fit the box")


def pile_cells(pile):
    """The cells of the pile, rising."""
    need_pile(pile)
    return sorted([(row, column, layer) for layer, share in enumerate(pile) for row, column in cells_of(share)])


def pile_of(cells):
    """The pile of a list of its cells, each once, in any order."""
    if not isinstance(cells, list) or not all([is_pile_cell(cell) for cell in cells]):
        raise NoPile("these are no cells of a pile")
    pile = pile_of_lengths(cells)
    # A hole, or a cell that stands twice, leaves the lengths of another pile, or of none.
    if pile_cells(pile) != sorted(cells):
        raise NoPile("these are not the cells of a pile, each once")
    return pile


def is_pile_cell(thing):
    """Whether the thing may be a cell of a pile, whatever it is."""
    if not isinstance(thing, tuple) or len(thing) != 3:
        return False
    return all([is_whole_from(0, LONGEST_WAY - 1, part) for part in thing])


def pile_of_lengths(cells):
    """The layers of rows of as many cells as stand there, rows and layers without any left out."""
    lengths = [[0] * LONGEST_WAY for layer in range(LONGEST_WAY)]
    for row, column, layer in cells:
        lengths[layer][row] += 1
    layers = [tuple([length for length in rows if length > 0]) for rows in lengths]
    return tuple([layer for layer in layers if layer != ()])


def other_pile(box, pile):
    """The pile of the cells that the box has and the pile hasn't, seen from the far corner."""
    need_pile_fit(box, pile)
    high, wide, deep = box
    layers = pile + ((),) * (deep - len(pile))
    others = [other_share((high, wide), layer) for layer in reversed(layers)]
    # No layer lies above an empty one, so those that are empty stand at the end.
    return tuple([layer for layer in others if layer != ()])
