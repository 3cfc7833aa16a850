"""Running sums: the table, the look at it, and answers by the corners of a box."""

from boxsums.fields import all_places, cell_at, last_place
from boxsums.helper import index_of, is_whole, one_of_each, places_between


def running_of(field):
    table = list(field[1])
    step = 1
    for side in reversed(field[0]):
        add_along(table, side, step)
        step = step * side
    return table


def add_along(table, side, step):
    for index in range(step, len(table)):
        if index // step % side > 0:
            table[index] = table[index] + table[index - step]


# What the look asks of a place is the sum by the corners of the box of this place alone.
def holds_running(field, thing):
    sides = field[0]
    if not isinstance(thing, list) or len(thing) != len(field[1]):
        return False
    if not all([is_whole(number) for number in thing]):
        return False
    return all([sum_by_running(sides, thing, (place, place)) == cell_at(field, place) for place in all_places(sides)])


def corners(sides, box):
    choices = [corner_numbers(first, last) for first, last in zip(box[0], box[1])]
    return [signed_place(chosen) for chosen in one_of_each(choices)]


def corner_numbers(first, last):
    if first == 0:
        return [(last, 1)]
    return [(first - 1, -1), (last, 1)]


def signed_place(chosen):
    sign = 1
    for pair in chosen:
        sign = sign * pair[1]
    return (sign, tuple([pair[0] for pair in chosen]))


def sum_by_running(sides, table, box):
    return sum([sign * table[index_of(sides, place)] for sign, place in corners(sides, box)])


# A base is a box of the sides without the last one.
def sums_along(sides, running, base):
    low = base[0]
    high = base[1]
    return [sum_by_running(sides, running, (low + (last,), high + (last,))) for last in range(sides[-1])]


def touched_by(sides, place):
    return places_between(place, last_place(sides))
