"""Walks of so many steps by their numbers, in the order of lists, there and back."""

from gridshares.errors import NoNumber
from gridshares.walks import need_walk, share_behind, steps_from, walk_tables, walks_between
from gridshares.wholes import is_whole_from, part_at


def walk_at(box, one, other, k, number):
    """The walk of that number among those of k steps in the box from one to other."""
    if not is_whole_from(0, walks_between(box, one, other, k) - 1, number):
        raise NoNumber("there is no walk of that number")
    share = one
    steps = []
    # The tables of fewer and fewer steps, those still to be gone behind the next one.
    for table in reversed(walk_tables(box, other, k)[:k]):
        ways = steps_from(box, share)
        part, number = part_at([table.get(left, 0) for step, left in ways], number)
        step, share = ways[part]
        steps.append(step)
    return steps


def place_of_walk(box, one, other, steps):
    """The number of the walk among those of as many steps in the box from one to other."""
    need_walk(box, one, other, steps)
    tables = walk_tables(box, other, len(steps))
    share = one
    number = 0
    for gone, step in enumerate(steps):
        table = tables[len(steps) - gone - 1]
        number += sum([table.get(left, 0) for ahead, left in steps_from(box, share) if ahead < step])
        share = share_behind(share, step)
    return number
