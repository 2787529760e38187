"""Promises [31] and [34]: papers of chains; of [3], that one that is let by tells how many there are."""

import time

from gridshares.chains import chains_between
from gridshares.countpapers import chains_paper, lets_chains
from gridshares.errors import NoFit
from tests.common import FAR_NUMBERS, WHATEVER, GridCase, all_shares, cell_set, chains_gone_through
from tests.common_papers import NO_NUMBERS, broken_entries, no_papers

SMALL = all_shares(3, 3)
PAIRS = [(one, other) for one in SMALL for other in SMALL]
NOT_WITHIN = [(one, other) for one, other in PAIRS if not cell_set(one) <= cell_set(other)]
WITHIN = [(one, other) for one, other in PAIRS if cell_set(one) <= cell_set(other)]
FIVE = (5,) * 5
SOME = [((), (2, 1)), ((1,), (3, 2)), ((2,), (3, 3, 1)), ((1, 1), (2, 2, 1)), ((), (1,)), ((2, 1), (2, 1)), ((), ())]


def shares_between(one, other):
    shares = all_shares(len(other), max((0,) + other))
    return [share for share in shares if cell_set(one) <= cell_set(share) <= cell_set(other)]


def paper_of(one, shares, fixed):
    """The entries of the shares with all sums made anew, but for the fixed numbers."""
    table = {}
    for share in sorted(shares, key=lambda share: (sum(share), share)):
        less = [number for left, number in table.items() if cell_set(left) < cell_set(share) and sum(left) + 1 == sum(share)]
        table[share] = fixed.get(share, sum(less))
    return [(share, table[share]) for share in shares]


class Told(GridCase):
    def test_gone_through(self):
        for one, other in WITHIN:
            shares = shares_between(one, other)
            expected = [(share, len(chains_gone_through(one, share))) for share in shares]
            self.tells(expected, chains_paper, one, other)

    def test_told(self):
        self.tells([((), 1), ((1,), 1), ((1, 1), 1), ((2,), 1), ((2, 1), 2)], chains_paper, (), (2, 1))
        self.tells([((2, 1), 1)], chains_paper, (2, 1), (2, 1))
        self.tells([((), 1)], chains_paper, (), ())

    def test_no_fit(self):
        for one, other in NOT_WITHIN + [((6,), FIVE), ((1,) * 6, FIVE), ((20,) * 20, ())]:
            self.refuses(NoFit, chains_paper, one, other)

    def test_told_lists_are_the_askers_own(self):
        paper = chains_paper((), (2, 1))
        paper.clear()
        self.assertEqual(5, len(chains_paper((), (2, 1))))


class LetBy(GridCase):
    def test_with_the_right_number_and_no_other(self):
        for one, other in WITHIN:
            paper = chains_paper(one, other)
            many = len(chains_gone_through(one, other))
            self.tells(True, lets_chains, one, other, paper, many)
            for number in [many + 1, many - 1, -many, 0, many * 2, 10 ** 29, -10 ** 29]:
                self.tells(False, lets_chains, one, other, paper, number)

    def test_great_shares(self):
        begun = time.monotonic()
        for one, other in [((), FIVE), ((1,), FIVE), ((), (5, 4, 3, 2, 1)), ((2, 1), (5, 5, 3)), (FIVE, FIVE)]:
            paper = self.told(chains_paper, one, other)
            many = chains_between(one, other)
            self.tells(True, lets_chains, one, other, paper, many)
            self.tells(False, lets_chains, one, other, paper, many + 1)
            for at in range(0, len(paper), 9):
                share, number = paper[at]
                wrong = paper[:at] + [(share, number + 1)] + paper[at + 1:]
                self.tells(False, lets_chains, one, other, wrong, many)
                self.tells(False, lets_chains, one, other, paper[:at] + paper[at + 1:], many)
        self.assertLess(time.monotonic() - begun, 30)

    def test_whoever_wrote_it(self):
        for one, other in WITHIN:
            shares = shares_between(one, other)
            paper = paper_of(one, shares, {one: 1})
            self.tells(True, lets_chains, one, other, paper, len(chains_gone_through(one, other)))

    def test_whatever_is_no_number(self):
        for one, other in SOME:
            paper = chains_paper(one, other)
            for number in NO_NUMBERS:
                self.tells(False, lets_chains, one, other, paper, number)

    def test_a_truth_is_no_number(self):
        for one, other in [((), ()), ((), (1,)), ((2, 1), (2, 1))]:
            self.tells(True, lets_chains, one, other, chains_paper(one, other), 1)
            self.tells(False, lets_chains, one, other, chains_paper(one, other), True)

    def test_whatever_is_no_paper(self):
        for one, other in SOME:
            many = chains_between(one, other)
            for thing in no_papers(chains_paper(one, other)):
                for number in [many, 0, None]:
                    self.tells(False, lets_chains, one, other, thing, number)

    def test_broken_in_one_place(self):
        for one, other in SOME + [((), (2, 2)), ((2,), (4,))]:
            paper, many = chains_paper(one, other), chains_between(one, other)
            for thing in broken_entries(paper):
                if thing != paper or repr(thing) != repr(paper):
                    self.tells(False, lets_chains, one, other, thing, many)

    def test_two_exchanged(self):
        for one, other in SOME:
            paper, many = chains_paper(one, other), chains_between(one, other)
            for at in range(len(paper)):
                for to in range(at):
                    wrong = list(paper)
                    wrong[at], wrong[to] = paper[to], paper[at]
                    self.tells(False, lets_chains, one, other, wrong, many)

    def test_another_number_with_all_sums_made_anew(self):
        for one, other in WITHIN:
            shares = shares_between(one, other)
            for share in shares:
                for otherwise in [0, 2, 3, -1]:
                    fixed = {one: 1, share: otherwise}
                    wrong = paper_of(one, shares, fixed)
                    if wrong != chains_paper(one, other):
                        for number in [dict(wrong)[other], chains_between(one, other)]:
                            self.assertIs(False, lets_chains(one, other, wrong, number), (wrong, number))

    def test_a_share_left_out_with_all_sums_made_anew(self):
        for one, other in WITHIN:
            shares = shares_between(one, other)
            for gone in shares:
                left = [share for share in shares if share != gone]
                wrong = paper_of(one, left, {one: 1})
                for number in {dict(wrong).get(other, 0), chains_between(one, other)}:
                    self.assertIs(False, lets_chains(one, other, wrong, number), (wrong, number))

    def test_a_share_that_is_not_between(self):
        for one, other in WITHIN[::2]:
            shares = shares_between(one, other)
            for further in [share for share in all_shares(4, 4) if share not in shares][::3]:
                more = sorted(shares + [further])
                for fixed in [{one: 1}, {one: 1, further: 0}, {one: 1, further: 1}]:
                    wrong = paper_of(one, more, fixed)
                    for number in {dict(wrong)[other], chains_between(one, other)}:
                        self.assertIs(False, lets_chains(one, other, wrong, number), (wrong, number))

    def test_one_that_is_other(self):
        for share in SMALL + [FIVE]:
            self.tells(True, lets_chains, share, share, [(share, 1)], 1)
            for wrong, number in [([], 0), ([], 1), ([(share, 0)], 0), ([(share, 2)], 2), ([(share, 1)] * 2, 1), ([share], 1)]:
                self.tells(False, lets_chains, share, share, wrong, number)

    def test_one_not_within_other(self):
        for one, other in NOT_WITHIN + [((6,), FIVE), ((1,) * 6, FIVE)]:
            for paper in [[], [(one, 1)], [(other, 0)], [(other, 1)], [(one, 1), (other, 0)], [(other, 0), (one, 1)], None, ()]:
                for number in [0, 1, None]:
                    self.tells(False, lets_chains, one, other, paper, number)
        for thing in WHATEVER + FAR_NUMBERS:
            self.tells(False, lets_chains, (2,), (1, 1), thing, 0)
