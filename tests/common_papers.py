"""What the tests of papers share: entries broken in one place, and things that are no papers."""

from tests.common import FAR_NUMBERS, WHATEVER

NO_NUMBERS = WHATEVER + ["5", "1", (1,), (), [5], {5: 5}]
# No share and no whole number stands in any of these as an entry has it.
NO_ENTRIES = [
    None, True, 0, 1, "", "1", "((), 1)", (), [], {}, ((),), (1,), ((1,),), ((), 1, 1), ((), 1, None), ((), ()), (1, ()),
    [(), 1], {(): 1}, (((), 1),), [((), 1)], ((), None), ((), "1"), ((), (1,)), ((), [1]), ((), True), ((), False),
    (None, 1), ("", 1), ("1", 1), (1, 1), (True, 1), ([], 1), ({}, 1), ((0,), 1), ((1, 0), 1), ((True,), 1), ((1, True), 1),
    ((False,), 1), ((1, 2), 1), ((21,), 1), ((1,) * 21, 1), (([],), 1), ((None,), 1), (("1",), 1), ([1], 1), ((-1,), 1),
]


def no_papers(paper):
    """Whatever is no paper, and things that are like the paper but are of other kinds."""
    return WHATEVER + FAR_NUMBERS + [
        (), 0, 1, tuple(paper), dict(enumerate(paper)), {"paper": paper}, str(paper), [paper], (paper,), [tuple(paper)],
        [list(thing) for thing in paper] if isinstance(paper[0], tuple) else [tuple(thing) for thing in paper],
    ]


def broken_entries(entries):
    """The entries broken in one place each: none of these is what the entries are."""
    broken = [entries + [thing] for thing in NO_ENTRIES] + [[thing] + entries for thing in NO_ENTRIES]
    broken += [entries + entries] if entries else []
    for at, (share, number) in enumerate(entries):
        ahead, after = entries[:at], entries[at + 1:]
        broken += [ahead + after, ahead + [entries[at]] * 2 + after, entries + [entries[at]], ahead + [entries[at:]]]
        broken += [ahead + [(share, otherwise)] + after for otherwise in numbers_otherwise(number)]
        broken += [ahead + [(otherwise, number)] + after for otherwise in shares_otherwise(share)]
        broken += [ahead + [entry] + after for entry in [
            [share, number], (share,), (number,), (share, number, number), (share, number, ()), (number, share), share, number,
            ((share, number),), {share: number}, {"share": share, "number": number}, None, (),
        ]]
        if after:
            broken.append(ahead + [entries[at + 1], entries[at]] + entries[at + 2:])
            broken.append(ahead + [(share, after[0][1] + 1), (after[0][0], number + 1)] + after[1:])
    return broken


def numbers_otherwise(number):
    numbers = [number + 1, number - 1, -number - 1, number * 2 + 1, 10 ** 29, None, str(number), (number,), [number], {}]
    return numbers + ([bool(number)] if number in (0, 1) else [])


def shares_otherwise(share):
    """Things in the place of the share, some of them shares."""
    shares = [
        list(share), share + (0,), share + (1,) * 21, (share,), [share], None, str(share), sum(share), (21,) + share[1:],
        {at: length for at, length in enumerate(share)}, tuple(str(length) for length in share) + ("1",), share + (1,),
    ]
    return shares + [
        share[:at] + (bool(length),) + share[at + 1:] for at, length in enumerate(share) if length == 1
    ]
