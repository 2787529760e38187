"""Piles turned by their three ways, joined and met, and one within another."""

from gridshares.errors import NoWay
from gridshares.orders import joined_shares, lies_within, met_shares
from gridshares.piles import need_pile, pile_cells, pile_of
from gridshares.wholes import is_whole


def turned_pile(pile, ways):
    """The pile that has, for each cell of this one, its parts at these ways, in this order."""
    need_pile(pile)
    need_ways(ways)
    first, second, third = ways
    return pile_of([(cell[first], cell[second], cell[third]) for cell in pile_cells(pile)])


def are_ways(thing):
    """Whether the thing is a tuple of the ways 0, 1, 2, each once, whatever it is."""
    # All are known to be numbers before any two are compared.
    if not isinstance(thing, tuple) or not all([is_whole(way) for way in thing]):
        return False
    return sorted(thing) == [0, 1, 2]


def need_ways(thing):
    """Refuse whatever is no order of the three ways."""
    if not are_ways(thing):
        raise NoWay("this is no order of the three ways")


def need_piles(one, other):
    """Refuse whatever is no pile, of both."""
    need_pile(one)
    need_pile(other)


def joined_piles(one, other):
    """The pile that has all cells of both."""
    need_piles(one, other)
    both = tuple([joined_shares(layer, further) for layer, further in zip(one, other)])
    # Behind the layers of both, one of the piles has no more layers.
    return both + one[len(both):] + other[len(both):]


def met_piles(one, other):
    """The pile that has the cells that both have."""
    need_piles(one, other)
    # All layers have their first cell, so none that is met is empty.
    return tuple([met_shares(layer, further) for layer, further in zip(one, other)])


def pile_within(one, other):
    """Whether other has all cells of one."""
    need_piles(one, other)
    return len(one) <= len(other) and all([lies_within(layer, limit) for layer, limit in zip(one, other)])
