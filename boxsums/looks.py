"""Entries of a row whose whole stretches change: how they are put together, looked at and asked."""

from boxsums.halves import cover, stretches, two_halves
from boxsums.helper import are_wholes
from boxsums.tables import put_together, thrice


# The longer stretches that have this one, the whole one first: each halved tells where to go on.
def around(side, stretch):
    found = []
    longer = (0, side - 1)
    while longer != stretch:
        found.append(longer)
        halves = two_halves(longer)
        longer = halves[0] if stretch[1] <= halves[0][1] else halves[1]
    return found


def waits_around(told, side, stretch):
    return sum([told[longer][3] for longer in around(side, stretch)])


def raised(values, stretch, number):
    length = stretch[1] - stretch[0] + 1
    return (values[0] + number * length, values[1] + number, values[2] + number)


# What is put on the longer ones waits there, so the entry of a cell has only the rest of its number.
def cell_entry(told, side, place, number):
    return thrice(number - waits_around(told, side, (place, place))) + (0,)


def entry_anew(told, stretch):
    waits = told[stretch][3]
    values = put_together([told[half] for half in two_halves(stretch)])
    return raised(values, stretch, waits) + (waits,)


def answer(told, side, low, high):
    pieces = cover(side, low, high)
    return put_together([raised(told[piece], piece, waits_around(told, side, piece)) for piece in pieces])


def holds_entries(numbers, thing):
    pieces = stretches(len(numbers))
    if not isinstance(thing, list) or len(thing) != len(pieces):
        return False
    if not all([is_entry(piece, entry) for piece, entry in zip(pieces, thing)]):
        return False
    told = dict(thing)
    return all([is_right(numbers, told, piece) for piece in pieces])


# The kinds are looked at first: True and 1 are equal to Python.
def is_entry(stretch, thing):
    if not isinstance(thing, tuple) or len(thing) != 2:
        return False
    return are_wholes(thing[0], 2) and thing[0] == stretch and are_wholes(thing[1], 4)


def is_right(numbers, told, stretch):
    place = stretch[0]
    if place == stretch[1]:
        return told[stretch] == cell_entry(told, len(numbers), place, numbers[place])
    return told[stretch] == entry_anew(told, stretch)


# Of rising entries the last is that of the last cell.
def by_entries(entries, low, high):
    return answer(dict(entries), entries[-1][0][1] + 1, low, high)
