"""A desk that keeps a share of a box, and answers rows of words with texts."""

from gridshares.boxes import other_share
from gridshares.chains import chains_between
from gridshares.corners import in_rows_of, out_rows
from gridshares.counts import how_many
from gridshares.errors import NoText, NoWord
from gridshares.hooks import hooks_of
from gridshares.keeper import Keeper
from gridshares.orders import joined_shares, lies_within, met_shares
from gridshares.places import share_at
from gridshares.reader import parts_of, read_box, read_number, read_share
from gridshares.shares import cells_in, turned_share
from gridshares.stacks import stacks_between
from gridshares.texts import show_chain, show_filling, show_share, show_walk
from gridshares.walks import walks_between

DONE = "ok"


def answer_put(keeper, row):
    """A cell put in."""
    keeper.put(row)
    return DONE


def answer_take(keeper, row):
    """A cell taken out."""
    keeper.take(row)
    return DONE


def answer_back(keeper):
    """The last deed taken back."""
    keeper.back()
    return DONE


def answer_again(keeper):
    """The deed taken back last done again."""
    keeper.again()
    return DONE


def answer_share(keeper):
    """The kept share."""
    return show_share(keeper.share())


def answer_other(keeper):
    """The other one of the kept share in the box."""
    return show_share(other_share(keeper.box, keeper.share()))


def answer_turned(keeper):
    """The kept share turned about."""
    return show_share(turned_share(keeper.share()))


def answer_cells(keeper):
    """How many cells the kept share has."""
    return str(cells_in(keeper.share()))


def answer_place(keeper):
    """The number of the kept share."""
    return str(keeper.place())


def answer_ins(keeper):
    """The in-rows of the box."""
    return show_chain(in_rows_of(keeper.box, keeper.share()))


def answer_outs(keeper):
    """The out-rows of the kept share."""
    return show_chain(out_rows(keeper.share()))


def answer_trail(keeper):
    """The walk of all deeds not taken back."""
    return show_walk(keeper.trail())


def answer_hooks(keeper):
    """The hooks of the kept share."""
    return show_filling(hooks_of(keeper.share()))


def answer_count(keeper, n):
    """How many shares of n cells fit the box."""
    return str(how_many(keeper.box, n))


def answer_at(keeper, n, number):
    """The share of that number among those of n cells that fit the box."""
    return show_share(share_at(keeper.box, n, number))


def answer_within(keeper, share):
    """Whether the kept share lies within that share."""
    return "yes" if lies_within(keeper.share(), share) else "no"


def answer_join(keeper, share):
    """The kept share and that share joined."""
    return show_share(joined_shares(keeper.share(), share))


def answer_meet(keeper, share):
    """The kept share and that share met."""
    return show_share(met_shares(keeper.share(), share))


def answer_chains(keeper, share):
    """How many chains lead from the kept share to that share."""
    return str(chains_between(keeper.share(), share))


def answer_walks(keeper, share, k):
    """How many walks of k steps in the box lead from the kept share to that share."""
    return str(walks_between(keeper.box, keeper.share(), share, k))


def answer_stacks(keeper, share, k):
    """How many stacks of k shares lead from the kept share to that share."""
    return str(stacks_between(keeper.share(), share, k))


ANSWERS = {
    "put": answer_put, "take": answer_take, "back": answer_back, "again": answer_again, "share": answer_share,
    "other": answer_other, "turned": answer_turned, "cells": answer_cells, "place": answer_place, "ins": answer_ins,
    "outs": answer_outs, "trail": answer_trail, "hooks": answer_hooks, "count": answer_count, "at": answer_at,
    "within": answer_within, "join": answer_join, "meet": answer_meet, "chains": answer_chains, "walks": answer_walks,
    "stacks": answer_stacks,
}

# The kinds of the words behind the first one, where there are any.
KINDS = {
    "put": ("number",), "take": ("number",), "count": ("number",), "at": ("number", "number"), "within": ("share",),
    "join": ("share",), "meet": ("share",), "chains": ("share",), "walks": ("share", "number"),
    "stacks": ("share", "number"),
}


class Desk:
    """Keeps a share of a box, and answers rows."""

    def __init__(self, text):
        words = parts_of(text, " ")
        if len(words) != 2:
            raise NoText("a desk is made of a box and a share")
        self.keeper = Keeper(read_box(words[0]), read_share(words[1]))

    def say(self, row):
        """The answer to the row."""
        words = words_of(row)
        things = [read_word(kind, word) for kind, word in zip(KINDS.get(words[0], ()), words[1:])]
        answer = ANSWERS[words[0]]
        return answer(self.keeper, *things)


def words_of(row):
    """The words of the row, the first one known and as many as belong to it."""
    if not isinstance(row, str):
        raise NoWord("this is no text")
    words = row.split(" ")
    if words[0] not in ANSWERS:
        raise NoWord("this is no word that a row begins with")
    if len(words) != 1 + len(KINDS.get(words[0], ())):
        raise NoWord("these are too many words, or too few")
    return words


def read_word(kind, word):
    """What the word of that kind tells."""
    return read_share(word) if kind == "share" else read_number(word)
