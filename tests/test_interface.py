"""The interface: each name is there, with its arguments by their places."""

import importlib
import inspect
import unittest

INTERFACE = {
    "shares": ["is_share(thing)", "share_of(things)", "cells_in(share)", "cells_of(share)", "turned_share(share)"],
    "boxes": ["is_box(thing)", "fits_in(box, share)", "full_share(box)", "other_share(box, share)"],
    "counts": ["how_many(box, n)", "cell_table(box)", "all_in(box)"],
    "places": ["share_at(box, n, number)", "place_of(box, share)"],
    "listed": ["shares_of(box, n)", "shares_in(box)"],
    "orders": ["lies_within(one, other)", "joined_shares(one, other)", "met_shares(one, other)"],
    "corners": [
        "in_rows(share)", "out_rows(share)", "in_rows_of(box, share)", "put_in(share, row)", "taken_out(share, row)",
    ],
    "hooks": ["hook_of(share, cell)", "hooks_of(share)"],
    "products": ["chains_to(share)", "walks_to(share, k)"],
    "chains": [
        "is_chain(one, other, thing)", "turned_chain(one, other, rows)", "chain_back(box, one, other, rows)",
        "chains_between(one, other)",
    ],
    "chainplaces": ["all_chains(one, other)", "chain_at(one, other, number)", "place_of_chain(one, other, rows)"],
    "squares": ["square_worth(square)", "choices_of(a, b)"],
    "bysquares": ["chains_by_square(one, other)", "stacks_by_square(one, other, k)"],
    "fillings": [
        "is_filling(one, other, thing)", "filling_of(one, other, rows)", "chain_of(one, other, filling)",
        "turned_filling(one, other, filling)",
    ],
    "walks": [
        "is_walk(box, one, other, thing)", "walk_shares(box, one, other, steps)", "walks_between(box, one, other, k)",
        "walk_back(box, one, other, steps)", "walk_of_others(box, one, other, steps)",
    ],
    "walkplaces": ["walk_at(box, one, other, k, number)", "place_of_walk(box, one, other, steps)"],
    "stacks": [
        "is_stack(one, other, k, thing)", "stacks_between(one, other, k)", "joined_stacks(some, others)",
        "met_stacks(some, others)",
    ],
    "stackplaces": ["stack_at(one, other, k, number)", "place_of_stack(one, other, stack)"],
    "piles": [
        "is_pile(thing)", "pile_fits(box, pile)", "pile_of(cells)", "pile_cells(pile)", "other_pile(box, pile)",
    ],
    "pileways": [
        "turned_pile(pile, ways)", "joined_piles(one, other)", "met_piles(one, other)", "pile_within(one, other)",
    ],
    "pilecounts": ["piles_in(box)", "piles_by_cells(box)"],
    "pileplaces": ["pile_at(box, number)", "place_of_pile(box, pile)"],
    "countpapers": ["lets_chains(one, other, paper, number)", "chains_paper(one, other)"],
    "walkpapers": ["lets_walks(box, one, other, k, paper, number)", "walks_paper(box, one, k)"],
    "stackpapers": ["lets_stacks(one, other, k, paper, number)", "stacks_paper(one, other, k)"],
    "texts": [
        "show_share(share)", "show_box(box)", "show_chain(rows)", "show_walk(steps)", "show_shares(shares)",
        "show_filling(filling)",
    ],
    "reader": [
        "read_share(text)", "read_box(text)", "read_chain(text)", "read_walk(text)", "read_stack(text)", "read_pile(text)",
        "read_filling(text)",
    ],
    "fillplaces": ["filling_at(one, other, number)", "place_of_filling(one, other, filling)"],
}
CLASSES = {
    "keeper": ("Keeper(box, share)", [
        "put(self, row)", "take(self, row)", "back(self)", "again(self)", "share(self)", "place(self)", "chains_here(self)",
        "chains_on(self)", "trail(self)",
    ]),
    "pilekeeper": ("PileKeeper(box, pile)", [
        "put(self, layer, row)", "take(self, layer, row)", "back(self)", "again(self)", "pile(self)",
    ]),
    "desk": ("Desk(text)", ["say(self, row)"]),
}


class Interface(unittest.TestCase):
    def test_functions(self):
        for module, functions in INTERFACE.items():
            there = importlib.import_module("gridshares." + module)
            for written in functions:
                name = written.partition("(")[0]
                self.assertEqual(written, name + str(inspect.signature(getattr(there, name))))

    def test_classes(self):
        for module, (written, methods) in CLASSES.items():
            name = written.partition("(")[0]
            there = getattr(importlib.import_module("gridshares." + module), name)
            self.assertEqual(written, name + str(inspect.signature(there)))
            for method in methods:
                # Each stands in the class itself, not in a base class.
                own = vars(there)[method.partition("(")[0]]
                self.assertEqual(method, own.__name__ + str(inspect.signature(own)))
