"""How many shares fit a box, of so many cells and in all, by tables."""

from gridshares.boxes import need_box


def how_many(box, n):
    """How many shares of n cells fit the box."""
    return told_in(cell_table(box), n)


def cell_table(box):
    """The list of how many shares of n cells fit the box, for n from 0 on."""
    need_box(box)
    high, wide = box
    return tables_to(high, wide)[high][wide]


def all_in(box):
    """How many shares fit the box."""
    return sum(cell_table(box))


def told_in(table, n):
    """What the table tells for n: none below 0 and behind its end."""
    if 0 <= n < len(table):
        return table[n]
    return 0


def tables_to(high, wide):
    """The cell tables of all boxes to (high, wide): that of a box stands at [its high][its wide]."""
    tables = [[[1] for width in range(wide + 1)]]
    for height in range(1, high + 1):
        tables.append(higher_tables(tables[height - 1]))
    return tables


def higher_tables(lower):
    """The tables of the boxes of a row more than those of the lower tables."""
    tables = [[1]]
    for width in range(1, len(lower)):
        tables.append(joined_table(tables[width - 1], lower[width], width))
    return tables


def joined_table(narrower, lower, width):
    """The table of a box, of the table of the box a column narrower and that of the box a row lower."""
    # A first row of the whole width leaves a share of the lower box; a shorter one, a share of the narrower box.
    table = [0] * width + lower
    for n, many in enumerate(narrower):
        table[n] += many
    return table
