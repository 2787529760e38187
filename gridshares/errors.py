"""The refusals: one class for each kind, all directly under GridError."""


class GridError(ValueError):
    """Any refusal."""


class NoShare(GridError):
    """What was handed in makes no share."""


class NoBox(GridError):
    """What was handed in as a box is none."""


class NoFit(GridError):
    """A share or pile doesn't fit, or doesn't lie within the other one."""


class NoNumber(GridError):
    """There is nothing of that number."""


class NoRow(GridError):
    """No cell can be put in, or taken out, at that row."""


class NoCell(GridError):
    """What was handed in is no cell of the share."""


class NoChain(GridError):
    """What was handed in as a chain is none."""


class NoSquare(GridError):
    """What was handed in as a square of numbers is none."""


class NoFilling(GridError):
    """What was handed in as a filling is none."""


class NoWalk(GridError):
    """What was handed in as a walk is none."""


class NoStack(GridError):
    """What was handed in as a stack is none."""


class NoPile(GridError):
    """What was handed in as a pile is none."""


class NoWay(GridError):
    """What was handed in is no order of the three ways."""


class NoBack(GridError):
    """There is no deed to take back, or to do again."""


class NoText(GridError):
    """What was handed in isn't a text written as told."""


class NoWord(GridError):
    """What was handed in is no row that a desk answers."""
