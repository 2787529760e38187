"""Promises [32] and [34]: papers of walks; of [3], that one that is let by tells how many there are."""

import time

from gridshares.errors import NoBox, NoFit
from gridshares.walkpapers import lets_walks, walks_paper
from gridshares.walks import walks_between
from tests.common import FAR_NUMBERS, NO_BOXES, WHATEVER, GridCase, all_shares, walks_gone_through, ways_from
from tests.common_papers import NO_NUMBERS, broken_entries, no_papers

SMALL_BOXES = [(0, 0), (0, 3), (3, 0), (1, 1), (1, 3), (3, 1), (2, 2), (2, 3), (3, 2)]
SOME = [
    ((2, 2), (), (1,), 3), ((2, 3), (2, 1), (2, 1), 2), ((1, 1), (1,), (), 3), ((2, 2), (), (2, 1), 2), ((3, 3), (1,), (1,), 0),
    ((0, 2), (), (), 2), ((3, 3), (), (3, 3, 3), 2), ((2, 2), (1, 1), (2,), 4),
]
NOT_FITTING = [
    ((1, 1), (2,), ()), ((1, 1), (), (1, 1)), ((0, 4), (1,), (1,)), ((4, 0), (), (1,)), ((2, 3), (4,), (4,)),
    ((3, 2), (1,), (1, 1, 1, 1)), ((4, 4), (5,), ()),
]


def lists_from(box, first, k):
    """The first list and k further ones, with all sums made anew."""
    shares = all_shares(*box)
    paper = [first]
    for step in range(k):
        sums = {}
        for share, number in paper[-1]:
            for way, left in ways_from(share, shares):
                sums[left] = sums.get(left, 0) + number
        paper.append(sorted(sums.items()))
    return paper


def made_anew(box, paper, at, entries):
    """The paper with these entries in the place of a list, and all sums behind it made anew."""
    return paper[:at] + lists_from(box, entries, len(paper) - at - 1)


class Told(GridCase):
    def test_gone_through(self):
        for box in SMALL_BOXES:
            for one in all_shares(*box):
                ends = [walks_gone_through(box, one, k) for k in range(4)]
                lists = [[(share, len(walks)) for share, walks in sorted(end.items()) if walks] for end in ends]
                for k in range(4):
                    self.tells(lists[:k + 1], walks_paper, box, one, k)

    def test_told(self):
        self.tells([[((1,), 1)]], walks_paper, (2, 2), (1,), 0)
        self.tells([[((), 1)], [((1,), 1)], [((), 1), ((1, 1), 1), ((2,), 1)]], walks_paper, (2, 2), (), 2)
        self.tells([[((), 1)], [], []], walks_paper, (0, 3), (), 2)

    def test_no_fit_and_no_box(self):
        for box, one in [((1, 1), (2,)), ((1, 1), (1, 1)), ((0, 0), (1,)), ((4, 4), (5,)), ((4, 4), (1,) * 5)]:
            for k in [0, 1, 8]:
                self.refuses(NoFit, walks_paper, box, one, k)
        for box in NO_BOXES:
            for one in [(), (1,), (20,) * 20]:
                self.refuses(NoBox, walks_paper, box, one, 2)

    def test_told_lists_are_the_askers_own(self):
        paper = walks_paper((2, 2), (), 2)
        paper[2].clear()
        paper[0].append(7)
        paper.pop()
        self.assertEqual([1, 1, 3], [len(entries) for entries in walks_paper((2, 2), (), 2)])


class LetBy(GridCase):
    def test_with_the_right_number_and_no_other(self):
        for box in SMALL_BOXES:
            for one in all_shares(*box)[::2]:
                for k in range(4):
                    paper = walks_paper(box, one, k)
                    for other, walks in walks_gone_through(box, one, k).items():
                        many = len(walks)
                        self.tells(True, lets_walks, box, one, other, k, paper, many)
                        for number in [many + 1, many - 1, -many - 1, 2 * many + 1, 10 ** 29]:
                            self.tells(False, lets_walks, box, one, other, k, paper, number)

    def test_eight_steps_in_four_by_four(self):
        begun = time.monotonic()
        for one in [(), (2, 1), (4, 4, 4, 4), (4, 2, 2)]:
            paper = self.told(walks_paper, (4, 4), one, 8)
            self.assertEqual(lists_from((4, 4), [(one, 1)], 8), paper)
            for other in all_shares(4, 4)[::6]:
                many = walks_between((4, 4), one, other, 8)
                self.tells(True, lets_walks, (4, 4), one, other, 8, paper, many)
                self.tells(False, lets_walks, (4, 4), one, other, 8, paper, many + 1)
        self.assertLess(time.monotonic() - begun, 30)

    def test_whoever_wrote_it(self):
        for box, one, other, k in SOME:
            paper = lists_from(box, [(one, 1)], k)
            self.tells(True, lets_walks, box, one, other, k, paper, len(walks_gone_through(box, one, k)[other]))

    def test_where_other_is_not_in_the_last_list(self):
        for box, one, other, k in [((2, 2), (), (), 3), ((3, 3), (), (3, 3, 3), 2), ((0, 2), (), (), 2), ((2, 2), (1,), (), 0)]:
            paper = walks_paper(box, one, k)
            self.assertNotIn(other, [share for share, number in paper[-1]])
            self.tells(True, lets_walks, box, one, other, k, paper, 0)
            for number in [1, -1, False, None]:
                self.tells(False, lets_walks, box, one, other, k, paper, number)
            wrong = paper[:-1] + [sorted(paper[-1] + [(other, 0)])]
            self.tells(False, lets_walks, box, one, other, k, wrong, 0)

    def test_whatever_is_no_number(self):
        for box, one, other, k in SOME:
            for number in NO_NUMBERS:
                self.tells(False, lets_walks, box, one, other, k, walks_paper(box, one, k), number)

    def test_a_truth_is_no_number(self):
        paper = walks_paper((2, 2), (), 1)
        self.tells(True, lets_walks, (2, 2), (), (1,), 1, paper, 1)
        self.tells(False, lets_walks, (2, 2), (), (1,), 1, paper, True)
        self.tells(True, lets_walks, (2, 2), (), (2,), 1, paper, 0)
        self.tells(False, lets_walks, (2, 2), (), (2,), 1, paper, False)

    def test_whatever_is_no_paper(self):
        for box, one, other, k in SOME:
            many = walks_between(box, one, other, k)
            for thing in no_papers(walks_paper(box, one, k)):
                for number in [many, 0, None]:
                    self.tells(False, lets_walks, box, one, other, k, thing, number)

    def test_broken_in_one_place(self):
        for box, one, other, k in SOME:
            paper, many = walks_paper(box, one, k), walks_between(box, one, other, k)
            for at in range(k + 1):
                for entries in broken_entries(paper[at]):
                    wrong = paper[:at] + [entries] + paper[at + 1:]
                    self.assertNotEqual(repr(paper), repr(wrong))
                    self.tells(False, lets_walks, box, one, other, k, wrong, many)

    def test_a_list_of_another_kind(self):
        for box, one, other, k in SOME:
            paper, many = walks_paper(box, one, k), walks_between(box, one, other, k)
            for at in range(k + 1):
                for thing in WHATEVER + [tuple(paper[at]), dict(paper[at]), [paper[at]], str(paper[at]), 0, (), {}]:
                    if thing != paper[at]:
                        self.tells(False, lets_walks, box, one, other, k, paper[:at] + [thing] + paper[at + 1:], many)

    def test_a_list_more_or_fewer(self):
        for box, one, other, k in SOME:
            longer, many = walks_paper(box, one, k + 1), walks_between(box, one, other, k)
            self.tells(True, lets_walks, box, one, other, k, longer[:k + 1], many)
            for wrong in [longer, longer[:k], longer[1:], longer[:1] + longer[:k + 1], longer[:k + 1] + [[]], []]:
                for number in [many, walks_between(box, one, other, k + 1)]:
                    self.tells(False, lets_walks, box, one, other, k, wrong, number)

    def test_lists_exchanged(self):
        for box, one, other, k in SOME:
            paper, many = walks_paper(box, one, k), walks_between(box, one, other, k)
            for at in range(k):
                if paper[at] != paper[at + 1]:
                    wrong = paper[:at] + [paper[at + 1], paper[at]] + paper[at + 2:]
                    self.tells(False, lets_walks, box, one, other, k, wrong, many)

    def test_the_first_list_otherwise_with_all_sums_made_anew(self):
        for box, one, other, k in SOME:
            firsts = [[], [(one, 2)], [(one, 0)], [(one, -1)], [(one, 1)] * 2, [(one, 10 ** 29)]]
            firsts += [[(share, 1)] for share in all_shares(*box) if share != one]
            firsts += [sorted([(share, 1), (one, 1)]) for share in all_shares(*box) if share != one]
            firsts += [sorted([(share, 0), (one, 1)]) for share in all_shares(*box) if share != one]
            for first in firsts:
                wrong = lists_from(box, first, k)
                for number in {dict(wrong[-1]).get(other, 0), walks_between(box, one, other, k)}:
                    self.tells(False, lets_walks, box, one, other, k, wrong, number)

    def test_a_later_list_otherwise_with_all_sums_made_anew(self):
        for box, one, other, k in SOME:
            paper = walks_paper(box, one, k)
            for at in range(1, k + 1):
                for entries in self.otherwise(box, paper[at]):
                    wrong = made_anew(box, paper, at, entries)
                    for number in {dict(wrong[-1]).get(other, 0), walks_between(box, one, other, k)}:
                        self.tells(False, lets_walks, box, one, other, k, wrong, number)

    def otherwise(self, box, entries):
        """The entries with one left out, one otherwise, one too many."""
        there = dict(entries)
        for at, (share, number) in enumerate(entries):
            yield entries[:at] + entries[at + 1:]
            yield entries[:at] + [(share, number + 1)] + entries[at + 1:]
            yield entries[:at] + [(share, 0)] + entries[at + 1:]
        for share in all_shares(*box):
            if share not in there:
                yield sorted(entries + [(share, 1)])
                yield sorted(entries + [(share, 0)])

    def test_a_share_that_does_not_fit_the_box(self):
        for box, one, other, k in [((2, 2), (), (1,), 3), ((1, 1), (), (1,), 3), ((2, 3), (2, 1), (2, 1), 2)]:
            paper, many = walks_paper(box, one, k), walks_between(box, one, other, k)
            for at in range(k + 1):
                for share in [(4,), (1,) * 4, (20,) * 20]:
                    for number in [0, 1]:
                        wrong = paper[:at] + [sorted(paper[at] + [(share, number)])] + paper[at + 1:]
                        self.tells(False, lets_walks, box, one, other, k, wrong, many)
            wider = walks_paper((4, 4), one, k)
            self.tells(False, lets_walks, box, one, other, k, wider, walks_between((4, 4), one, other, k))

    def test_no_steps(self):
        for one in all_shares(2, 2):
            for other in all_shares(2, 2):
                many = 1 if one == other else 0
                self.tells(True, lets_walks, (2, 2), one, other, 0, [[(one, 1)]], many)
                self.tells(False, lets_walks, (2, 2), one, other, 0, [[(one, 1)]], 1 - many)
                for wrong in [[], [[]], [(one, 1)], [[(other, many)]] * 2, [[(one, 0)]], [[(one, 2)]], [[(one, True)]]]:
                    self.tells(False, lets_walks, (2, 2), one, other, 0, wrong, many)

    def test_fewer_steps_than_none(self):
        for paper in [[], [[]], [[((), 1)]]]:
            for number in [0, 1]:
                self.tells(False, lets_walks, (2, 2), (), (), -1, paper, number)

    def test_what_does_not_fit(self):
        for box, one, other in NOT_FITTING:
            for k in [0, 1, 2]:
                for paper in [[], [[(one, 1)]], [[(one, 1)], []], [[(one, 1)], [], []], [[], []], [[(other, 1)]], None, ()]:
                    for number in [0, 1, None]:
                        self.tells(False, lets_walks, box, one, other, k, paper, number)

    def test_no_box(self):
        for box in NO_BOXES:
            for one, other, paper in [((), (), [[((), 1)]]), ((20,) * 20, (1,), []), ((), (1,), None)]:
                for number in [1, None]:
                    self.refuses(NoBox, lets_walks, box, one, other, 0, paper, number)

    def test_far_numbers_and_papers(self):
        for number in FAR_NUMBERS:
            self.tells(False, lets_walks, (2, 2), (), (), 2, walks_paper((2, 2), (), 2), number)
        self.tells(False, lets_walks, (2, 2), (), (), 2, [[((), 1)]] * 1000, 1)
        self.tells(False, lets_walks, (2, 2), (), (), 2, [[((), 1)]] + [[((1,), 1)] * 1000] * 2, 1)
