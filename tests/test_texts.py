"""Promise [37]: shares, boxes, chains, walks, stacks, piles and fillings written, and read again."""

import itertools
import random
import re

from gridshares.errors import NoBox, NoText
from gridshares.fillings import filling_of
from gridshares.hooks import hooks_of
from gridshares.piles import is_pile
from gridshares.reader import read_box, read_chain, read_filling, read_pile, read_share, read_stack, read_walk
from gridshares.texts import show_box, show_chain, show_filling, show_share, show_shares, show_walk
from tests.common import FAR_NUMBERS, NO_BOXES, WHATEVER, GridCase, all_shares, chains_gone_through
from tests.common_piles import GREAT, piles_gone_through

THIRTY = 10 ** 30 - 1
NUMBER = "(0|[1-9][0-9]{0,29})"
SIGNS = list("0123456789+-.,x/ no") + ["\n", "\t", "_", "~", "a", "X", "e", ":", "none", " / ", "--", "  "]


def is_told_share(thing):
    return len(thing) <= 20 and all(1 <= length <= 20 for length in thing) and list(thing) == sorted(thing, reverse=True)


def share_by_text(text):
    if text == "-":
        return ()
    if not re.fullmatch(rf"{NUMBER}(\.{NUMBER})*", text):
        return None
    share = tuple(int(part) for part in text.split("."))
    return share if is_told_share(share) else None


def box_by_text(text):
    found = re.fullmatch(f"{NUMBER}x{NUMBER}", text)
    box = tuple(int(part) for part in found.groups()) if found else None
    return box if box and max(box) <= 20 else None


def chain_by_text(text):
    if text == "none":
        return []
    return [int(part) for part in text.split(",")] if re.fullmatch(f"{NUMBER}(,{NUMBER})*", text) else None


def walk_by_text(text):
    if text == "none":
        return []
    if not re.fullmatch(f"[+-]{NUMBER}(,[+-]{NUMBER})*", text):
        return None
    return [("put" if part[0] == "+" else "take", int(part[1:])) for part in text.split(",")]


def stack_by_text(text):
    if text == "none":
        return []
    shares = [share_by_text(part) for part in text.split(" ")]
    return None if None in shares else shares


def pile_by_text(text):
    stack = stack_by_text(text)
    return tuple(stack) if stack is not None and is_pile(tuple(stack)) else None


def filling_by_text(text):
    if text == "none":
        return ()
    row = "(-|[1-9][0-9]{0,29}( [1-9][0-9]{0,29})*)"
    if not re.fullmatch(f"{row}( / {row})*", text):
        return None
    return tuple(() if part == "-" else tuple(int(word) for word in part.split(" ")) for part in text.split(" / "))


# Of each kind: how it is written, how it is read, how the tests read it, and some of them with their texts.
SHARES = [
    ((), "-"), ((1,), "1"), ((20,), "20"), ((3, 1), "3.1"), ((10, 10, 2), "10.10.2"), ((1,) * 20, ".".join(["1"] * 20)),
    ((20,) * 20, ".".join(["20"] * 20)),
]
BOXES = [((0, 0), "0x0"), ((2, 3), "2x3"), ((20, 20), "20x20"), ((0, 20), "0x20"), ((10, 9), "10x9")]
CHAINS = [
    ([], "none"), ([0], "0"), ([0, 1, 0], "0,1,0"), ([12, 0, 20], "12,0,20"), ([THIRTY], "9" * 30), ([5] * 900, "5" + ",5" * 899),
]
WALKS = [
    ([], "none"), ([("put", 0)], "+0"), ([("take", 0)], "-0"), ([("put", 0), ("put", 11), ("take", 11)], "+0,+11,-11"),
    ([("take", THIRTY), ("put", 0)], "-" + "9" * 30 + ",+0"),
]
STACKS = [
    ([], "none"), ([()], "-"), ([(), ()], "- -"), ([(), (1,), (2, 1)], "- 1 2.1"), ([(2, 1), (1,), ()], "2.1 1 -"),
    ([(20,) * 20, (20,)], ".".join(["20"] * 20) + " 20"), ([(3,)] * 900, "3" + " 3" * 899),
]
PILES = [
    ((), "none"), (((1,),), "1"), (((2, 1), (1,)), "2.1 1"), (((6, 6), (6, 5), (1, 1)), "6.6 6.5 1.1"),
    ((((6,) * 6,) * 6), " ".join(["6.6.6.6.6.6"] * 6)),
]
FILLINGS = [
    ((), "none"), (((),), "-"), (((), ()), "- / -"), (((1,),), "1"), (((1, 3), (2,)), "1 3 / 2"), (((1, 2), (), (3,)), "1 2 / - / 3"),
    (((5, 5, 1), (10, THIRTY)), "5 5 1 / 10 " + "9" * 30), (((), (1, 2)), "- / 1 2"), (((4,), ()), "4 / -"),
]
KINDS = [
    (show_share, read_share, share_by_text, SHARES), (show_box, read_box, box_by_text, BOXES),
    (show_chain, read_chain, chain_by_text, CHAINS), (show_walk, read_walk, walk_by_text, WALKS),
    (show_shares, read_stack, stack_by_text, STACKS), (show_shares, read_pile, pile_by_text, PILES),
    (show_filling, read_filling, filling_by_text, FILLINGS),
]
READERS = [read for show, read, by_text, some in KINDS]
NOTHING = [
    "", " ", "  ", "\n", "None", "NONE", "none ", " none", "none\n", "none,none", "none none", "nonenone", ".", ",", "x", "/", " / ",
    "--", "-.", ".-", "-,", "+", "+-", "(1)", "[]", "()", "[0]", "one", "~" * 4000, " " * 4000, "a" * 4000, "\n" * 4000,
]


def texts_around(text):
    """The text with one sign more, less or otherwise."""
    for at in range(len(text) + 1):
        yield text[:at] + text[at + 1:]
        for sign in SIGNS:
            yield text[:at] + sign + text[at:]
            yield text[:at] + sign + text[at + 1:]


class ThereAndBack(GridCase):
    def test_told(self):
        for show, read, by_text, some in KINDS:
            for thing, text in some:
                self.tells(text, show, thing)
                self.tells(thing, read, text)

    def test_a_stack_and_a_pile_are_written_alike(self):
        for pile, text in PILES:
            self.tells(text, show_shares, list(pile))
        for stack, text in STACKS:
            self.tells(text, show_shares, tuple(stack))

    def test_shares_and_boxes(self):
        for share in all_shares(4, 5):
            self.tells(share, read_share, show_share(share))
        for box in itertools.product(range(21), repeat=2):
            self.tells(f"{box[0]}x{box[1]}", show_box, box)
            self.tells(box, read_box, show_box(box))

    def test_chains_fillings_and_hooks(self):
        for one, other in [((), (3, 2, 1)), ((1,), (3, 2)), ((2, 1), (2, 2)), ((2,), (2,)), ((2, 2), (3, 2, 1)), ((), ())]:
            for rows in chains_gone_through(one, other):
                self.tells(rows, read_chain, show_chain(rows))
                filling = filling_of(one, other, rows)
                self.tells(filling, read_filling, show_filling(filling))
            self.tells(hooks_of(other), read_filling, show_filling(hooks_of(other)))

    def test_piles_and_stacks(self):
        for pile in GREAT + piles_gone_through(2, 2, 3):
            self.tells(pile, read_pile, show_shares(pile))
            self.tells(list(pile), read_stack, show_shares(pile))

    def test_by_chance(self):
        chance = random.Random(37)
        for time in range(200):
            rows = [chance.randrange(25) for step in range(chance.randrange(8))]
            self.tells(rows, read_chain, show_chain(rows))
            steps = [(chance.choice(["put", "take"]), row) for row in rows]
            self.tells(steps, read_walk, show_walk(steps))
            shares = [chance.choice(all_shares(3, 3)) for row in rows]
            self.tells(shares, read_stack, show_shares(shares))
            filling = tuple(tuple(chance.randrange(1, 40) for cell in share) for share in shares)
            self.tells(filling, read_filling, show_filling(filling))

    def test_no_box(self):
        for thing in NO_BOXES:
            self.refuses(NoBox, show_box, thing)


class Reading(GridCase):
    def check(self, read, by_text, text):
        expected = by_text(text)
        if expected is None:
            self.refuses(NoText, read, text)
        else:
            self.assertEqual(repr(expected), repr(read(text)), text)

    def test_one_sign_more_less_or_otherwise(self):
        for show, read, by_text, some in KINDS:
            for thing, text in some:
                if len(text) < 40:
                    for around in texts_around(text):
                        self.check(read, by_text, around)

    def test_all_short_texts(self):
        for many in range(5):
            for signs in itertools.product("01-+. ,x/"[:9 if many < 4 else 5], repeat=many):
                for show, read, by_text, some in KINDS:
                    self.check(read, by_text, "".join(signs))

    def test_each_kind_read_as_each(self):
        for show, read, by_text, some in KINDS:
            for further in KINDS:
                for thing, text in further[3]:
                    self.check(read, by_text, text)

    def test_whatever_is_nothing(self):
        for read in READERS:
            for text in NOTHING:
                self.refuses(NoText, read, text)

    def test_dash_alone_and_none(self):
        self.tells((), read_share, "-")
        self.tells([()], read_stack, "-")
        self.tells(((),), read_filling, "-")
        for read in [read_box, read_chain, read_walk, read_pile]:
            self.refuses(NoText, read, "-")
        for read, thing in [(read_chain, []), (read_walk, []), (read_stack, []), (read_pile, ()), (read_filling, ())]:
            self.tells(thing, read, "none")
        for read in [read_share, read_box]:
            self.refuses(NoText, read, "none")

    def test_no_layer_of_a_pile_is_empty(self):
        for text in ["-", "- -", "1 -", "- 1", "2.1 - 1", "none 1", "1 none"]:
            self.refuses(NoText, read_pile, text)

    def test_piles_that_are_none(self):
        for text in ["1 2", "2 1.1", "7", "1.1.1.1.1.1.1", "1 1 1 1 1 1 1", "2.1 2.2", "1  1", " 1", "1 "]:
            self.refuses(NoText, read_pile, text)
            self.check(read_stack, stack_by_text, text)

    def test_figures(self):
        for wrong in [
            "00", "01", "007", "+1", "-1", "1_0", "1_", "_1", " 1", "1 ", "\n1", "1\n", "\t1", "1e2", "0x1", "0b1", "1.", "a", "A",
            "1" * 31, "9" * 31, "1" + "0" * 30, "0" * 30, "0" * 31, "", "1" * 3999, "0" * 4000,
        ]:
            for read, text in [
                (read_share, "5." + wrong), (read_share, "2." + wrong + ".1"), (read_box, wrong + "x3"), (read_box, "3x" + wrong),
                (read_chain, wrong), (read_chain, "0," + wrong), (read_chain, wrong + ",0"), (read_walk, "+" + wrong),
                (read_walk, "-" + wrong), (read_walk, "+0,-" + wrong), (read_stack, "3 4." + wrong), (read_filling, "1 / 2 x" + wrong),
                (read_filling, "1 x" + wrong),
            ]:
                self.check(read, dict((kind[1], kind[2]) for kind in KINDS)[read], text)
            for read in [read_chain, read_box, read_pile, read_walk]:
                self.refuses(NoText, read, wrong + "," if read == read_chain else wrong + "x")

    def test_thirty_and_thirty_one_figures(self):
        for figures in ["9" * 30, "1" + "0" * 29]:
            self.tells([int(figures)], read_chain, figures)
            self.tells([("put", int(figures)), ("take", int(figures))], read_walk, f"+{figures},-{figures}")
            self.tells(((int(figures),), (1, int(figures))), read_filling, f"{figures} / 1 {figures}")
            for read, text in [(read_share, figures), (read_box, figures + "x1"), (read_stack, figures), (read_pile, figures)]:
                self.refuses(NoText, read, text)
        for figures in ["9" * 31, "1" + "0" * 30, "1" * 4000]:
            for read, text in [
                (read_chain, figures), (read_chain, "0," + figures), (read_walk, "+" + figures), (read_walk, "+0,-" + figures),
                (read_filling, figures), (read_filling, "1 / " + figures), (read_share, figures), (read_box, "1x" + figures),
            ]:
                self.refuses(NoText, read, text)

    def test_rows_that_rise_noughts_and_a_21(self):
        for text in ["1.2", "3.3.4", "0", "1.0", "0.0", "21", "20.21", "21.1", ".".join(["1"] * 21), "100", "1.1.1.2"]:
            self.refuses(NoText, read_share, text)
            self.refuses(NoText, read_stack, text)
            self.refuses(NoText, read_stack, "1 " + text)
            self.refuses(NoText, read_pile, text)
        for text in ["21x1", "1x21", "21x21", "100x1", "1x1x1", "1", "x", "1x", "x1", "1X1", "1x-1", "1 x 1", "+1x1"]:
            self.refuses(NoText, read_box, text)
        for text in ["0", "1 0", "0 / 1", "1 / 0", "1 2 / 3 0", "1 /2", "1/ 2", "1/2", "1 / ", " / 1", "1 / / 2", "- 1", "1 -", "- -"]:
            self.refuses(NoText, read_filling, text)

    def test_no_text_whatever_it_is(self):
        for read in READERS:
            for thing in WHATEVER + FAR_NUMBERS + [0, 1, (), b"1", b"none", ["none"], ("1",), [()]]:
                if not isinstance(thing, str):
                    self.refuses(NoText, read, thing)

    def test_other_figures(self):
        for figure in ["\u0661", "\u00b2", "\uff11", "\u2460"]:
            for read, text in [(read_chain, figure), (read_share, figure), (read_box, figure + "x1"), (read_walk, "+" + figure)]:
                self.refuses(NoText, read, text)
