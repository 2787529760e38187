"""Piles of a box of three ways by their numbers, in the order of tuples, there and back."""

from gridshares.boxes import full_share
from gridshares.errors import NoNumber
from gridshares.listed import shares_between
from gridshares.piles import need_deep_box, need_pile_fit
from gridshares.stacks import stack_tables_hither
from gridshares.wholes import is_whole_from, part_at


def pile_at(box, number):
    """The pile of that number among those that fit the box."""
    need_deep_box(box)
    high, wide, deep = box
    share = full_share((high, wide))
    tables = pile_tables(box)
    if not is_whole_from(0, tables[deep][share] - 1, number):
        raise NoNumber("there is no pile of that number")
    layers = []
    # The tables of fewer and fewer layers, those still to come behind the next one.
    for table in reversed(tables[:deep]):
        within = shares_between((), share)
        part, number = part_at([table[layer] for layer in within], number)
        share = within[part]
        layers.append(share)
    # No layer lies above an empty one, so those that are empty stand at the end.
    return tuple([layer for layer in layers if layer != ()])


def place_of_pile(box, pile):
    """The number of the pile among those that fit the box."""
    need_pile_fit(box, pile)
    high, wide, deep = box
    tables = pile_tables(box)
    share = full_share((high, wide))
    number = 0
    # A pile comes ahead of those that have more layers over the same ones: as if the missing ones were empty.
    for gone, layer in enumerate(pile + ((),) * (deep - len(pile))):
        table = tables[deep - gone - 1]
        number += sum([table[ahead] for ahead in shares_between((), share) if ahead < layer])
        share = layer
    return number


def pile_tables(box):
    """For each number of layers a table of how many piles of at most so many have all layers within each share."""
    high, wide, deep = box
    # Read from the top down, the layers of such a pile, empty ones too, are a stack from the empty share to that share.
    return stack_tables_hither((), full_share((high, wide)), deep)
