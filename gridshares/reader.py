"""Shares, boxes, chains, walks, stacks, piles and fillings read from texts."""

from gridshares.boxes import is_box
from gridshares.errors import NoText
from gridshares.piles import is_pile
from gridshares.shares import is_share
from gridshares.texts import EMPTY, NONE
from gridshares.walks import PUT, TAKE

MOST_FIGURES = 30


def need_text(thing):
    """Refuse whatever is no text."""
    if not isinstance(thing, str):
        raise NoText("this is no text")


def parts_of(text, mark):
    """The parts of the text between the marks."""
    need_text(text)
    return text.split(mark)


def read_number(text):
    """The whole number that the text's figures write."""
    # Not all that Python takes for figures are these ten.
    if not text.isascii() or not text.isdigit() or len(text) > MOST_FIGURES:
        raise NoText("these are no figures of a whole number")
    if text.startswith("0") and text != "0":
        raise NoText("a nought stands ahead")
    return int(text)


def read_share(text):
    """The share that is written so."""
    if text == EMPTY:
        return ()
    share = tuple([read_number(part) for part in parts_of(text, ".")])
    if not is_share(share):
        raise NoText("these are no rows of a share")
    return share


def read_box(text):
    """The box that is written so."""
    box = tuple([read_number(part) for part in parts_of(text, "x")])
    if not is_box(box):
        raise NoText("these are no sides of a box")
    return box


def read_chain(text):
    """The list of rows that is written so."""
    if text == NONE:
        return []
    return [read_number(part) for part in parts_of(text, ",")]


def read_walk(text):
    """The list of steps that is written so."""
    if text == NONE:
        return []
    return [read_step(part) for part in parts_of(text, ",")]


def read_step(text):
    """The step that is written so."""
    if text.startswith("+"):
        return PUT, read_number(text[1:])
    if text.startswith("-"):
        return TAKE, read_number(text[1:])
    raise NoText("a step begins with + or -")


def read_stack(text):
    """The list of shares that is written so."""
    if text == NONE:
        return []
    return [read_share(part) for part in parts_of(text, " ")]


def read_pile(text):
    """The pile that is written so."""
    pile = tuple(read_stack(text))
    if not is_pile(pile):
        raise NoText("these are no layers of a pile")
    return pile


def read_filling(text):
    """The tuple of rows of numbers that is written so."""
    if text == NONE:
        return ()
    return tuple([read_filling_row(part) for part in parts_of(text, " / ")])


def read_filling_row(text):
    """The row of a filling that is written so."""
    if text == EMPTY:
        return ()
    row = tuple([read_number(part) for part in parts_of(text, " ")])
    if 0 in row:
        raise NoText("the numbers of a filling are 1 and more")
    return row
