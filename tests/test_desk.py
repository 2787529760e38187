"""Promise [38]: a desk, its rows and their answers."""

import random

from gridshares.boxes import full_share, other_share
from gridshares.chains import chains_between
from gridshares.corners import in_rows_of, out_rows
from gridshares.counts import how_many
from gridshares.desk import Desk
from gridshares.errors import NoBack, NoFit, NoNumber, NoRow, NoText, NoWord
from gridshares.hooks import hooks_of
from gridshares.orders import joined_shares, lies_within, met_shares
from gridshares.places import place_of, share_at
from gridshares.shares import turned_share
from gridshares.stacks import stacks_between
from gridshares.texts import show_box, show_chain, show_filling, show_share, show_walk
from gridshares.walks import walks_between
from tests.common import FAR_NUMBERS, WHATEVER, GridCase, all_shares, ways_from

ALONE = ["back", "again", "share", "other", "turned", "cells", "place", "ins", "outs", "trail", "hooks"]
ASKED_ALONE = ALONE[2:]
OF_A_NUMBER = ["put", "take", "count"]
OF_A_SHARE = ["within", "join", "meet", "chains"]
OF_SHARE_AND_NUMBER = ["walks", "stacks"]
NO_NUMBERS = ["", "-1", "+1", "01", "00", "1.", "x", "none", "-", "1\n", "\n1", "1_0", "1" * 31, "0" * 30, "1.1", "a", "1,2", "1e1"]
NO_SHARES = ["", "0", "1.2", "21", "none", "1,1", "-1", "+1", "01", "1.0", "1.", ".1", "--", "1\n", "x", "2x1", "1" * 31, "3.3.4"]


def desk_of(box, share):
    return Desk(show_box(box) + " " + show_share(share))


class Rows(GridCase):
    def answers(self, desk, box, share, trail):
        """Each row that asks of the kept share alone, with its answer."""
        for row, answer in [
            ("share", show_share(share)), ("other", show_share(other_share(box, share))), ("turned", show_share(turned_share(share))),
            ("cells", str(sum(share))), ("place", str(place_of(box, share))), ("ins", show_chain(in_rows_of(box, share))),
            ("outs", show_chain(out_rows(share))), ("trail", show_walk(trail)), ("hooks", show_filling(hooks_of(share))),
        ]:
            self.tells(answer, desk.say, row)

    def test_each_row_of_many_desks(self):
        for box in [(0, 0), (0, 4), (4, 0), (1, 1), (2, 3), (3, 3), (6, 6)]:
            shares = all_shares(*box)
            for share in shares[::len(shares) // 12 + 1] + [full_share(box)]:
                desk = desk_of(box, share)
                self.answers(desk, box, share, [])
                for n in [0, 1, 2, 5, 9, 36, 37, 10 ** 29]:
                    self.tells(str(how_many(box, n)), desk.say, f"count {n}")
                for other in [(), (1,), (2, 1), (3, 3), (1, 1, 1), (7, 7, 1), share]:
                    text = show_share(other)
                    self.tells("yes" if lies_within(share, other) else "no", desk.say, "within " + text)
                    self.tells(show_share(joined_shares(share, other)), desk.say, "join " + text)
                    self.tells(show_share(met_shares(share, other)), desk.say, "meet " + text)
                    self.tells(str(chains_between(share, other)), desk.say, "chains " + text)

    def test_chains_to_seven_by_seven(self):
        for share in [(), (3, 1), (6,) * 6]:
            desk = desk_of((6, 6), share)
            self.tells(str(chains_between(share, (7,) * 7)), desk.say, "chains " + show_share((7,) * 7))

    def test_walks_and_stacks(self):
        for box, share in [((2, 2), ()), ((3, 3), (2, 1)), ((5, 5), (3, 1)), ((0, 3), ())]:
            desk = desk_of(box, share)
            for other in all_shares(*box)[::9] + [share]:
                for k in [0, 1, 2, 5, 16]:
                    self.tells(str(walks_between(box, share, other, k)), desk.say, f"walks {show_share(other)} {k}")
        for share in [(), (1,), (2, 1)]:
            desk = desk_of((5, 5), share)
            for other in all_shares(4, 4)[::9] + [(4,) * 4]:
                for k in range(7):
                    self.tells(str(stacks_between(share, other, k)), desk.say, f"stacks {show_share(other)} {k}")

    def test_at(self):
        for box in [(2, 2), (3, 4), (6, 6), (0, 0)]:
            desk = desk_of(box, ())
            for n in range(box[0] * box[1] + 1):
                for number in range(how_many(box, n)):
                    self.assertEqual(show_share(share_at(box, n, number)), desk.say(f"at {n} {number}"))
                self.refuses(NoNumber, desk.say, f"at {n} {how_many(box, n)}")
            self.refuses(NoNumber, desk.say, f"at {box[0] * box[1] + 1} 0")
            self.refuses(NoNumber, desk.say, f"at {10 ** 29} {10 ** 29}")

    def test_told(self):
        desk = Desk("3x4 2.1")
        for row, answer in [
            ("share", "2.1"), ("cells", "3"), ("place", "1"), ("other", "4.3.2"), ("turned", "2.1"), ("ins", "0,1,2"), ("outs", "0,1"),
            ("trail", "none"), ("hooks", "3 1 / 1"), ("put 0", "ok"), ("put 2", "ok"), ("share", "3.1.1"), ("trail", "+0,+2"),
            ("take 0", "ok"), ("trail", "+0,+2,-0"), ("back", "ok"), ("back", "ok"), ("share", "3.1"), ("again", "ok"),
            ("share", "3.1.1"), ("trail", "+0,+2"), ("count 5", "4"), ("at 5 0", "2.2.1"), ("within 3.1.1", "yes"), ("within 3.1", "no"),
            ("join 2.2", "3.2.1"), ("meet 2.2", "2.1"), ("meet -", "-"), ("chains 4.1.1", "1"), ("chains -", "0"),
            ("walks 3.1.1 2", "4"), ("stacks 3.1.1 3", "1"), ("hooks", "5 2 1 / 2 / 1"), ("ins", "0,1"), ("outs", "0,2"),
        ]:
            self.assertEqual(answer, desk.say(row), row)

    def test_empty_and_full(self):
        desk = Desk("0x3 -")
        for row, answer in [
            ("share", "-"), ("other", "-"), ("turned", "-"), ("cells", "0"), ("place", "0"), ("ins", "none"), ("outs", "none"),
            ("trail", "none"), ("hooks", "none"), ("count 0", "1"), ("count 1", "0"), ("at 0 0", "-"), ("within -", "yes"),
            ("join -", "-"), ("chains -", "1"), ("walks - 0", "1"), ("walks - 2", "0"), ("stacks - 6", "1"),
        ]:
            self.tells(answer, desk.say, row)

    def test_deeds(self):
        chance = random.Random(38)
        for box in [(6, 6), (3, 2), (1, 1), (2, 5)]:
            share, done, gone = (), [], []
            desk = desk_of(box, share)
            for time in range(80):
                deed = chance.choice(["put", "put", "take", "back", "again"])
                row = chance.randrange(8)
                ways = dict(ways_from(share, all_shares(*box)))
                if deed in ("back", "again"):
                    some, others = (done, gone) if deed == "back" else (gone, done)
                    if some:
                        self.assertEqual("ok", desk.say(deed))
                        others.append(some.pop())
                        share = others[-1][1 if deed == "back" else 2]
                    else:
                        self.refuses(NoBack, desk.say, deed)
                elif (deed, row) in ways:
                    self.assertEqual("ok", desk.say(f"{deed} {row}"))
                    done.append(((deed, row), share, ways[deed, row]))
                    share, gone = ways[deed, row], []
                else:
                    self.refuses(NoRow, desk.say, f"{deed} {row}")
                self.answers(desk, box, share, [step for step, ahead, behind in done])

    def test_two_beside_one_another(self):
        one, other = Desk("3x3 1"), Desk("3x3 1")
        one.say("put 0")
        self.tells("1", other.say, "share")
        self.refuses(NoBack, other.say, "back")
        self.tells("+0", one.say, "trail")


class Refusals(GridCase):
    def setUp(self):
        self.desk = Desk("3x3 2.1")
        for row in ["put 0", "put 1", "put 2", "back"]:
            self.desk.say(row)

    def no(self, refusal, row):
        """The row is refused; share and trail are as they were, and what might be done again, too."""
        self.refuses(refusal, self.desk.say, row)
        self.assertEqual(("3.2", "+0,+1"), (self.desk.say("share"), self.desk.say("trail")), row)

    def tearDown(self):
        self.assertEqual("ok", self.desk.say("again"))
        self.assertEqual("+0,+1,+2", self.desk.say("trail"))

    def test_what_is_no_text(self):
        for thing in WHATEVER + FAR_NUMBERS + [0, 1, (), ["share"], ("share",), b"share", {"share": "share"}, [["put", 0]]]:
            self.no(NoWord, thing)

    def test_words_unknown(self):
        for row in [
            "", " ", "  ", "Share", "SHARE", "shares", "shar", "share\n", "\nshare", "share\t", "puts 0", "Put 0", "put\n0", "+0", "0",
            "ok", "yes", "none", "-", "2.1", "3x3 2.1", "chain 1", "walk 1 1", "stack 1 1", "box", "full", "chains_here", "say share",
            "__init__", "keeper", "number 1", "~" * 4000, " " * 4000, "a " * 2000, "get", "items 1",
        ]:
            self.no(NoWord, row)

    def test_words_too_many_or_too_few(self):
        for word in ALONE:
            for row in [word + " ", " " + word, word + " 1", word + " -", word + "  ", " " + word + " ", word + " " + word]:
                self.no(NoWord, row)
        for word in OF_A_NUMBER:
            for row in [word, " " + word, word + "  1", word + " 1 ", " " + word + " 1", word + " 1 1", word + "  ", word + " 0 x"]:
                self.no(NoWord, row)
        for word in OF_A_SHARE:
            for row in [word, word + "  1", word + " 1 ", " " + word + " 1", word + " 1 1", word + "  ", word + " - -", word + " x x"]:
                self.no(NoWord, row)
        for word in OF_SHARE_AND_NUMBER + ["at"]:
            for row in [word, word + " 1", word + " ", word + " 1  1", word + "  1 1", word + " 1 1 ", " " + word + " 1 1", word + " x",
                        word + " 1 1 1", word + "   ", word + " x x x"]:
                self.no(NoWord, row)

    def test_words_not_written_as_their_kind(self):
        for number in NO_NUMBERS:
            for row in [
                "put " + number, "take " + number, "count " + number, "at 1 " + number, f"at {number} 0", f"at {number} 100",
                "walks 1 " + number, "stacks 1 " + number, "walks 4 " + number, "at 100 " + number,
            ]:
                self.no(NoText, row)
        for share in NO_SHARES:
            for row in ["within " + share, "join " + share, "meet " + share, "chains " + share, f"walks {share} 1", f"stacks {share} 1"]:
                self.no(NoText, row)
            for number in NO_NUMBERS:
                self.no(NoText, f"walks {share} {number}")

    def test_a_word_without_signs(self):
        # Two blanks, or one at the end, where as many words belong to the first one.
        for row in ["put ", "take ", "count ", "within ", "join ", "meet ", "chains ", "at  0", "at 0 ", "at  ", "walks  1", "walks 1 ",
                    "stacks  "]:
            self.no(NoText, row)

    def test_then_the_refusals_of_the_stages(self):
        for row in ["put 0", "put 3", "put 4", "put 20", "put 21", "put " + "9" * 30, "take 2", "take 3", "take 20", "take " + "9" * 30]:
            self.no(NoRow, row)
        for row in ["at 5 3", "at 10 0", "at 0 1", "at " + "9" * 30 + " 0", "at 5 " + "9" * 30]:
            self.no(NoNumber, row)
        for row in ["walks 4 1", "walks 1.1.1.1 0", "walks 20 16", "walks 4.4 2"]:
            self.no(NoFit, row)

    def test_nothing_to_take_back(self):
        desk = Desk("3x3 2.1")
        for row in ["back", "again"]:
            self.refuses(NoBack, desk.say, row)
            self.assertEqual(("2.1", "none"), (desk.say("share"), desk.say("trail")))


class Made(GridCase):
    def test_texts_of_which_no_desk_is_made(self):
        for text in [
            "", " ", "3x3", "2.1", "3x3 ", " 3x3", "3x3  2.1", " 3x3 2.1", "3x3 2.1 ", "3x3 2.1 1", "2.1 3x3", "3x3 none", "3x3 1.2",
            "3x3 0", "3x3 01", "03x3 1", "3X3 1", "3x3x3 1", "3 1", "3x3,1", "3x3\n1", "3x3 1\n", "-1x3 -", "21x3 -", "3x21 -", "none -",
            "3x3 --", "3x3 +1", "3x 1", "x3 1", "3x3 21", "3x3 2.", "3x3 .2", "3x3 " + "1" * 31, "~" * 4000, "- 3x3", "3x3 -\n",
        ]:
            self.refuses(NoText, Desk, text)

    def test_what_is_no_text(self):
        for thing in WHATEVER + FAR_NUMBERS + [0, 1, (), ["3x3 -"], ("3x3", "-"), b"3x3 -", ((3, 3), ()), {"3x3": "-"}]:
            self.refuses(NoText, Desk, thing)

    def test_no_fit(self):
        for text in ["3x3 4", "3x3 1.1.1.1", "0x0 1", "1x1 2", "2x6 7.1", "6x6 20"]:
            self.refuses(NoFit, Desk, text)
