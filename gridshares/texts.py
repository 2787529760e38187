"""Shares, boxes, chains, walks, stacks, piles and fillings written as texts."""

from gridshares.boxes import need_box
from gridshares.walks import PUT

EMPTY = "-"
NONE = "none"


def show_share(share):
    """The text of the share."""
    return ".".join([str(length) for length in share]) if share else EMPTY


def show_box(box):
    """The text of the box."""
    need_box(box)
    high, wide = box
    return f"{high}x{wide}"


def show_chain(rows):
    """The text of the chain."""
    return ",".join([str(row) for row in rows]) if rows else NONE


def show_walk(steps):
    """The text of the walk."""
    return ",".join([show_step(word, row) for word, row in steps]) if steps else NONE


def show_step(word, row):
    """The text of a step of a walk."""
    sign = "+" if word == PUT else "-"
    return f"{sign}{row}"


def show_shares(shares):
    """The text of the stack or pile."""
    return " ".join([show_share(share) for share in shares]) if shares else NONE


def show_filling(filling):
    """The text of the filling."""
    return " / ".join([show_filling_row(row) for row in filling]) if filling else NONE


def show_filling_row(row):
    """The text of a row of a filling."""
    return " ".join([str(number) for number in row]) if row else EMPTY
