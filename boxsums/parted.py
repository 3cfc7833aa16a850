"""A row parted by worth: for stretches of its unlike numbers, which cells go to the second half."""

from boxsums.halves import stretches, two_halves
from boxsums.helper import are_wholes


def worths(numbers):
    return sorted(set(numbers))


# For each cell, which of the worths its number is.
def worth_numbers(numbers):
    places = dict([(worth, place) for place, worth in enumerate(worths(numbers))])
    return [places[number] for number in numbers]


def flags_at(standing, stretch):
    second = two_halves(stretch)[1]
    return tuple([1 if place >= second[0] else 0 for place in standing if stretch[0] <= place <= stretch[1]])


def parted(numbers):
    standing = worth_numbers(numbers)
    longer = [stretch for stretch in stretches(len(worths(numbers))) if stretch[0] < stretch[1]]
    return [(stretch, flags_at(standing, stretch)) for stretch in longer]


def holds_parted(numbers, thing):
    right = parted(numbers)
    if not isinstance(thing, list) or len(thing) != len(right):
        return False
    return all([is_entry(entry, shown) for entry, shown in zip(right, thing)])


# The kinds are looked at first: True and 1 are equal to Python.
def is_entry(right, thing):
    if not isinstance(thing, tuple) or len(thing) != 2:
        return False
    return are_wholes(thing[0], 2) and are_wholes(thing[1], len(right[1])) and thing == right
