"""Stacks of so many shares by their numbers, in the order of lists, there and back."""

from gridshares.errors import NoNumber
from gridshares.listed import shares_between
from gridshares.stacks import need_stack, stack_tables, stacks_between
from gridshares.wholes import is_whole_from, part_at


def stack_at(one, other, k, number):
    """The stack of that number among those of k shares from one to other."""
    if not is_whole_from(0, stacks_between(one, other, k) - 1, number):
        raise NoNumber("there is no stack of that number")
    share = one
    stack = []
    # The tables of fewer and fewer shares, those still to come behind the next one.
    for table in reversed(stack_tables(one, other, k)[:k]):
        over = shares_between(share, other)
        part, number = part_at([table[following] for following in over], number)
        share = over[part]
        stack.append(share)
    return stack


def place_of_stack(one, other, stack):
    """The number of the stack among those of as many shares from one to other."""
    need_stack(one, other, stack)
    tables = stack_tables(one, other, len(stack))
    share = one
    number = 0
    for gone, following in enumerate(stack):
        table = tables[len(stack) - gone - 1]
        number += sum([table[ahead] for ahead in shares_between(share, other) if ahead < following])
        share = following
    return number
