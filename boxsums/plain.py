"""The answers for a box straight from its cells."""

from boxsums.fields import ask_for_box
from boxsums.helper import index_of, places_between


# Cells along the last way stand side by side, so each line of the box is one slice.
def cells_in(field, box):
    sides = field[0]
    ask_for_box(sides, box)
    low = box[0]
    high = box[1]
    length = high[-1] - low[-1] + 1
    found = []
    for line in places_between(low[:-1], high[:-1]):
        start = index_of(sides, line + (low[-1],))
        found.extend(field[1][start:start + length])
    return found


def sum_in(field, box):
    return sum(cells_in(field, box))


def least_in(field, box):
    return min(cells_in(field, box))


def greatest_in(field, box):
    return max(cells_in(field, box))
