"""A kept pile of a box of three ways that grows and shrinks, back and again."""

from gridshares.errors import NoRow
from gridshares.keeper import Deeds
from gridshares.piles import is_pile, need_pile_fit, pile_fits
from gridshares.shares import cells_in
from gridshares.walks import PUT, TAKE, share_behind, undone
from gridshares.wholes import is_whole_from


class PileKeeper:
    """Keeps a pile of a box of three ways."""

    def __init__(self, box, pile):
        need_pile_fit(box, pile)
        self.box = box
        self.kept = pile
        self.deeds = Deeds()

    def put(self, layer, row):
        """Put a cell in at the end of the row of the layer."""
        return self.do_new((PUT, layer, row))

    def take(self, layer, row):
        """Take a cell out at the end of the row of the layer."""
        return self.do_new((TAKE, layer, row))

    def back(self):
        """Take the last deed back."""
        word, layer, row = self.deeds.take_back()
        return self.keep(pile_behind(self.kept, (undone(word), layer, row)))

    def again(self):
        """Do the deed again that was taken back last."""
        return self.keep(pile_behind(self.kept, self.deeds.do_again()))

    def pile(self):
        """The kept pile."""
        return self.kept

    def do_new(self, deed):
        """Do a deed that wasn't taken back before."""
        left = pile_behind(self.kept, deed)
        if not pile_fits(self.box, left):
            raise NoRow("what is left doesn't fit the box")
        self.deeds.note(deed)
        return self.keep(left)

    def keep(self, left):
        """Keep the pile that is left, and tell how many cells it has."""
        self.kept = left
        return sum([cells_in(layer) for layer in left])


def pile_behind(pile, deed):
    """The pile that the deed leaves."""
    word, layer, row = deed
    if not is_whole_from(0, len(pile), layer):
        raise NoRow("there is no such layer here")
    layers = pile + ((),)
    left = pile[:layer] + (share_behind(layers[layer], (word, row)),) + pile[layer + 1:]
    # Only the last layer may be left empty: then it is none.
    if left[-1] == ():
        left = left[:-1]
    if not is_pile(left):
        raise NoRow("this leaves no pile")
    return left
