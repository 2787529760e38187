"""Promises [33] and [34]: papers of stacks; of [3], that one that is let by tells how many there are."""

import time

from gridshares.errors import NoFit
from gridshares.stackpapers import lets_stacks, stacks_paper
from gridshares.stacks import stacks_between
from tests.common import FAR_NUMBERS, WHATEVER, GridCase, all_shares, cell_set, stacks_gone_through
from tests.common_papers import NO_NUMBERS, broken_entries, no_papers

SMALL = all_shares(2, 3)
PAIRS = [(one, other) for one in SMALL for other in SMALL]
NOT_WITHIN = [(one, other) for one, other in PAIRS if not cell_set(one) <= cell_set(other)]
WITHIN = [(one, other) for one, other in PAIRS if cell_set(one) <= cell_set(other)]
FOUR = (4, 4, 4, 4)
SOME = [((), (2, 1), 2), ((1,), (2, 2), 1), ((2,), (2, 1), 3), ((), (1,), 4), ((2, 1), (2, 1), 2), ((), (), 2), ((1,), (3,), 0)]


def shares_between(one, other):
    shares = all_shares(len(other), max((0,) + other))
    return [share for share in shares if cell_set(one) <= cell_set(share) <= cell_set(other)]


def lists_from(first, k):
    """The first list and k further ones, with all sums made anew over the same shares."""
    paper = [first]
    for step in range(k):
        ahead = paper[-1]
        paper.append([
            (share, sum(number for under, number in ahead if cell_set(under) <= cell_set(share))) for share, gone in ahead
        ])
    return paper


def paper_of(shares, k):
    return lists_from([(share, 1) for share in shares], k)


class Told(GridCase):
    def test_gone_through(self):
        for one, other in WITHIN:
            for k in range(4):
                expected = [
                    [(share, len(stacks_gone_through(one, share, many))) for share in shares_between(one, other)]
                    for many in range(k + 1)
                ]
                self.tells(expected, stacks_paper, one, other, k)

    def test_told(self):
        self.tells([[((), 1), ((1,), 1)], [((), 1), ((1,), 2)], [((), 1), ((1,), 3)]], stacks_paper, (), (1,), 2)
        self.tells([[((2, 1), 1)]] * 3, stacks_paper, (2, 1), (2, 1), 2)
        self.tells([[((), 1)]], stacks_paper, (), (), 0)

    def test_no_fit(self):
        for one, other in NOT_WITHIN + [((5,), FOUR), ((1,) * 5, FOUR), ((20,) * 20, ())]:
            for k in [0, 1, 4]:
                self.refuses(NoFit, stacks_paper, one, other, k)

    def test_told_lists_are_the_askers_own(self):
        paper = stacks_paper((2, 1), (2, 1), 2)
        paper[0].append(7)
        self.assertEqual([((2, 1), 1)], paper[1])
        paper[2].clear()
        paper.pop()
        self.assertEqual([[((2, 1), 1)]] * 3, stacks_paper((2, 1), (2, 1), 2))


class LetBy(GridCase):
    def test_with_the_right_number_and_no_other(self):
        for one, other in WITHIN:
            for k in range(4):
                paper = stacks_paper(one, other, k)
                many = len(stacks_gone_through(one, other, k))
                self.tells(True, lets_stacks, one, other, k, paper, many)
                for number in [many + 1, many - 1, -many, 0, many * 2, 10 ** 29]:
                    self.tells(False, lets_stacks, one, other, k, paper, number)

    def test_four_of_four_by_four(self):
        begun = time.monotonic()
        for one, other in [((), FOUR), ((1,), FOUR), ((2, 1), (4, 4, 3, 1)), (FOUR, FOUR), ((), (4, 3, 2, 1))]:
            paper = self.told(stacks_paper, one, other, 4)
            self.assertEqual(paper_of(shares_between(one, other), 4), paper)
            many = stacks_between(one, other, 4)
            self.tells(True, lets_stacks, one, other, 4, paper, many)
            self.tells(False, lets_stacks, one, other, 4, paper, many + 1)
        self.assertLess(time.monotonic() - begun, 30)

    def test_whoever_wrote_it(self):
        for one, other in WITHIN:
            for k in range(3):
                paper = paper_of(shares_between(one, other), k)
                self.tells(True, lets_stacks, one, other, k, paper, len(stacks_gone_through(one, other, k)))

    def test_whatever_is_no_number(self):
        for one, other, k in SOME:
            for number in NO_NUMBERS:
                self.tells(False, lets_stacks, one, other, k, stacks_paper(one, other, k), number)

    def test_a_truth_is_no_number(self):
        for one, other, k in [((), (2, 1), 0), ((2, 1), (2, 1), 3), ((), (), 2)]:
            self.tells(True, lets_stacks, one, other, k, stacks_paper(one, other, k), 1)
            self.tells(False, lets_stacks, one, other, k, stacks_paper(one, other, k), True)

    def test_whatever_is_no_paper(self):
        for one, other, k in SOME:
            many = stacks_between(one, other, k)
            for thing in no_papers(stacks_paper(one, other, k)):
                for number in [many, 0, None]:
                    self.tells(False, lets_stacks, one, other, k, thing, number)

    def test_broken_in_one_place(self):
        for one, other, k in SOME:
            paper, many = stacks_paper(one, other, k), stacks_between(one, other, k)
            for at in range(k + 1):
                for entries in broken_entries(paper[at]):
                    wrong = paper[:at] + [entries] + paper[at + 1:]
                    self.assertNotEqual(repr(paper), repr(wrong))
                    self.tells(False, lets_stacks, one, other, k, wrong, many)

    def test_a_list_of_another_kind(self):
        for one, other, k in SOME:
            paper, many = stacks_paper(one, other, k), stacks_between(one, other, k)
            for at in range(k + 1):
                for thing in WHATEVER + [tuple(paper[at]), dict(paper[at]), [paper[at]], str(paper[at]), 0, (), {}]:
                    self.tells(False, lets_stacks, one, other, k, paper[:at] + [thing] + paper[at + 1:], many)

    def test_a_list_more_or_fewer(self):
        for one, other, k in SOME:
            longer, many = stacks_paper(one, other, k + 1), stacks_between(one, other, k)
            self.tells(True, lets_stacks, one, other, k, longer[:k + 1], many)
            for wrong in [longer, longer[:k], longer[:k + 1] + [[]], [[]] + longer[:k], [], [[]] * (k + 1)]:
                for number in [many, stacks_between(one, other, k + 1), 0]:
                    self.tells(False, lets_stacks, one, other, k, wrong, number)

    def test_lists_exchanged(self):
        for one, other, k in SOME:
            paper, many = stacks_paper(one, other, k), stacks_between(one, other, k)
            for at in range(k):
                if paper[at] != paper[at + 1]:
                    wrong = paper[:at] + [paper[at + 1], paper[at]] + paper[at + 2:]
                    self.tells(False, lets_stacks, one, other, k, wrong, many)

    def test_a_share_left_out_in_all_lists(self):
        for one, other, k in SOME:
            shares = shares_between(one, other)
            for gone in shares:
                wrong = paper_of([share for share in shares if share != gone], k)
                for number in {dict(wrong[-1]).get(other, 0), stacks_between(one, other, k)}:
                    self.tells(False, lets_stacks, one, other, k, wrong, number)

    def test_a_share_too_many_in_all_lists(self):
        for one, other, k in SOME:
            shares = shares_between(one, other)
            for further in [share for share in all_shares(3, 4) if share not in shares]:
                wrong = paper_of(sorted(shares + [further]), k)
                for number in {dict(wrong[-1])[other], stacks_between(one, other, k)}:
                    self.tells(False, lets_stacks, one, other, k, wrong, number)

    def test_two_exchanged_or_one_twice_in_all_lists(self):
        for one, other, k in SOME:
            paper, many = stacks_paper(one, other, k), stacks_between(one, other, k)
            for at in range(len(paper[0])):
                self.tells(False, lets_stacks, one, other, k, [entries + [entries[at]] for entries in paper], many)
                self.tells(False, lets_stacks, one, other, k, [[entries[at]] + entries for entries in paper], many)
                if at:
                    wrong = [entries[:at - 1] + [entries[at], entries[at - 1]] + entries[at + 1:] for entries in paper]
                    self.tells(False, lets_stacks, one, other, k, wrong, many)

    def test_numbers_otherwise_with_all_sums_made_anew(self):
        for one, other, k in SOME:
            paper = stacks_paper(one, other, k)
            for at in range(k + 1):
                for place, (share, number) in enumerate(paper[at]):
                    for otherwise in [number + 1, number - 1, 0, -1]:
                        entries = paper[at][:place] + [(share, otherwise)] + paper[at][place + 1:]
                        wrong = paper[:at] + lists_from(entries, k - at)
                        if wrong != paper:
                            for told in {dict(wrong[-1])[other], stacks_between(one, other, k)}:
                                self.tells(False, lets_stacks, one, other, k, wrong, told)

    def test_the_first_numbers_all_otherwise(self):
        for one, other, k in SOME:
            shares = shares_between(one, other)
            for first in [0, 2, -1, 10 ** 20]:
                wrong = lists_from([(share, first) for share in shares], k)
                for number in {dict(wrong[-1])[other], stacks_between(one, other, k)}:
                    self.tells(False, lets_stacks, one, other, k, wrong, number)
            wrong = [[(share, True) for share in shares]] + paper_of(shares, k)[1:]
            self.tells(False, lets_stacks, one, other, k, wrong, stacks_between(one, other, k))

    def test_no_shares(self):
        for one, other in WITHIN:
            paper = [[(share, 1) for share in shares_between(one, other)]]
            self.tells(True, lets_stacks, one, other, 0, paper, 1)
            for number in [0, 2, True, None]:
                self.tells(False, lets_stacks, one, other, 0, paper, number)
            for wrong in [[], [[]], paper[0], paper * 2, [paper]]:
                self.tells(False, lets_stacks, one, other, 0, wrong, 1)

    def test_one_not_within_other(self):
        for one, other in NOT_WITHIN + [((5,), FOUR), ((1,) * 5, FOUR)]:
            for k in [0, 1, 2]:
                for paper in [[], [[]], [[], []], [[], [], []], [[(one, 1)]], [[(other, 1)]] * (k + 1), None, ()]:
                    for number in [0, 1, None]:
                        self.tells(False, lets_stacks, one, other, k, paper, number)

    def test_fewer_shares_than_none(self):
        for paper in [[], [[]], [[((), 1)]]]:
            for number in [0, 1]:
                self.tells(False, lets_stacks, (), (), -1, paper, number)

    def test_far_numbers_and_papers(self):
        for number in FAR_NUMBERS:
            self.tells(False, lets_stacks, (), (1,), 2, stacks_paper((), (1,), 2), number)
        self.tells(False, lets_stacks, (), (), 2, [[((), 1)]] * 1000, 1)
        self.tells(False, lets_stacks, (), (), 2, [[((), 1)] * 1000] * 3, 1)
