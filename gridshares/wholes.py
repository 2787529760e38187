"""The helper of the package: what several files need of whole numbers."""


def is_whole(thing):
    """Whether the thing is a whole number."""
    # Python counts True and False among the ints, but a truth is no number here.
    return isinstance(thing, int) and not isinstance(thing, bool)


def is_whole_from(least, most, thing):
    """Whether the thing is a whole number from least to most."""
    return is_whole(thing) and least <= thing <= most


def product_of(numbers):
    """The product of a list of numbers, 1 of none."""
    product = 1
    for number in numbers:
        product *= number
    return product


def factorial_of(n):
    """1 times 2 and so on to n."""
    return product_of(list(range(1, n + 1)))


def part_at(parts, number):
    """In which part that number falls, of parts of so many numbers each, and which one it is there."""
    part = 0
    while number >= parts[part]:
        number -= parts[part]
        part += 1
    return part, number
