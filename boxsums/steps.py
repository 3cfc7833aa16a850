"""The steps of a field: its cells are their running sums, so a whole box changes by few of them."""

from boxsums.fields import all_places
from boxsums.helper import index_of, one_of_each
from boxsums.running import running_of, signed_place, sum_by_running


# The cells are the running table, so a step is what such a table has for the box of its place alone.
def steps_of(field):
    return [sum_by_running(field[0], field[1], (place, place)) for place in all_places(field[0])]


def field_by(sides, steps):
    return (sides, tuple(running_of((sides, steps))))


def lifted(sides, steps, box, number):
    behind = list(steps)
    choices = [ends(side, first, last) for side, first, last in zip(sides, box[0], box[1])]
    places = []
    for chosen in one_of_each(choices):
        signed = signed_place(chosen)
        index = index_of(sides, signed[1])
        behind[index] = behind[index] + signed[0] * number
        places.append(signed[1])
    return (behind, places)


def ends(side, first, last):
    if last + 1 == side:
        return [(first, 1)]
    return [(first, 1), (last + 1, -1)]
