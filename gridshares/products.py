"""How many chains and walks lead from the empty share to a share, by products."""

from gridshares.hooks import hooks_of
from gridshares.shares import cells_in
from gridshares.wholes import factorial_of, product_of


def chains_to(share):
    """How many chains lead from the empty share to this one."""
    hooks = [hook for row in hooks_of(share) for hook in row]
    return factorial_of(len(hooks)) // product_of(hooks)


def walks_to(share, k):
    """How many walks of k steps lead from the empty share to this one, where no box is in the way."""
    n = cells_in(share)
    spare = k - n
    if spare < 0 or spare % 2 == 1:
        return 0
    choices = factorial_of(k) // (factorial_of(n) * factorial_of(spare))
    pairings = product_of(list(range(spare - 1, 0, -2)))
    return choices * pairings * chains_to(share)
