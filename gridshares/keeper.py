"""A kept share of a box that grows and shrinks, back and again; the deeds of a keeper."""

from gridshares.boxes import need_fit, other_share
from gridshares.corners import in_rows_of, out_rows
from gridshares.errors import NoBack, NoRow
from gridshares.places import place_of
from gridshares.products import chains_to
from gridshares.walks import PUT, TAKE, is_step, share_behind, undone


class Deeds:
    """The deeds of a keeper: those not taken back, and those that might be done again."""

    def __init__(self):
        self.done = []
        self.gone = []

    def note(self, deed):
        """Note a new deed: it forgets what might be done again."""
        self.done.append(deed)
        self.gone = []

    def take_back(self):
        """Take the last deed back, and tell it."""
        if not self.done:
            raise NoBack("there is no deed to take back")
        deed = self.done.pop()
        self.gone.append(deed)
        return deed

    def do_again(self):
        """Do the deed again that was taken back last, and tell it."""
        if not self.gone:
            raise NoBack("there is no deed to do again")
        deed = self.gone.pop()
        self.done.append(deed)
        return deed


class Keeper:
    """Keeps a share of a box."""

    def __init__(self, box, share):
        need_fit(box, share)
        self.box = box
        self.kept = share
        self.deeds = Deeds()

    def put(self, row):
        """Put a cell in at the row."""
        return self.do_new((PUT, row))

    def take(self, row):
        """Take a cell out at the row."""
        return self.do_new((TAKE, row))

    def back(self):
        """Take the last deed back."""
        word, row = self.deeds.take_back()
        return self.go((undone(word), row))

    def again(self):
        """Do the deed again that was taken back last."""
        return self.go(self.deeds.do_again())

    def share(self):
        """The kept share."""
        return self.kept

    def place(self):
        """The number of the kept share among those of as many cells that fit the box."""
        return place_of(self.box, self.kept)

    def chains_here(self):
        """How many chains lead from the empty share to the kept one."""
        return chains_to(self.kept)

    def chains_on(self):
        """How many chains lead from the kept share to the full one of the box."""
        # Their ways back are the chains from the empty share to the other one.
        return chains_to(other_share(self.box, self.kept))

    def trail(self):
        """The walk of all deeds not taken back."""
        return list(self.deeds.done)

    def do_new(self, step):
        """Go a step that wasn't taken back before."""
        if not is_step(self.box, self.kept, step):
            raise NoRow("there is no such row here")
        self.deeds.note(step)
        return self.go(step)

    def go(self, step):
        """Go the step, and tell the in-rows of the box and the out-rows behind it."""
        self.kept = share_behind(self.kept, step)
        return in_rows_of(self.box, self.kept), out_rows(self.kept)
