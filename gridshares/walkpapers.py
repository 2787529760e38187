"""Papers of walks: which are let by, and those that are told."""

from gridshares.boxes import fits_in, need_fit
from gridshares.countpapers import are_lists_of_entries, entries_of, table_of
from gridshares.walks import longer_walks
from gridshares.wholes import is_whole


def lets_walks(box, one, other, k, paper, number):
    """Whether the paper shows that there are just so many walks of k steps, whatever paper and number are."""
    if not fits_in(box, one) or not fits_in(box, other):
        return False
    if not is_whole(number) or not are_lists_of_entries(k + 1, paper) or paper[0] != [(one, 1)]:
        return False
    for ahead, entries in zip(paper, paper[1:]):
        # The first list that is otherwise ends it: steps are asked only of shares that are known to fit the box.
        if entries != entries_behind(box, ahead):
            return False
    return number == table_of(paper[k]).get(other, 0)


def walks_paper(box, one, k):
    """The paper of the walks of k steps in the box from one."""
    need_fit(box, one)
    paper = [[(one, 1)]]
    for step in range(k):
        paper.append(entries_behind(box, paper[step]))
    return paper


def entries_behind(box, entries):
    """The entries of the list behind this one: all shares that a step leads to, each with its sum."""
    return entries_of(longer_walks(box, table_of(entries)))
