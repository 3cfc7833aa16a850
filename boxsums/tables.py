"""The halves of a field: the table, the look at it, answers by it and changes of it."""

from boxsums.fields import cell_at, is_box
from boxsums.halves import cover, stretches, two_halves
from boxsums.helper import are_wholes, entry_at, one_of_each, product, replaced
from boxsums.plain import cells_in


def box_of(pairs):
    return (tuple([pair[0] for pair in pairs]), tuple([pair[1] for pair in pairs]))


# Boxes go by all of low first, stretches chosen way by way don't: so they are sorted.
def boxes_by(choices):
    return sorted([box_of(pairs) for pairs in one_of_each(choices)])


def half_boxes(sides):
    return boxes_by([stretches(side) for side in sides])


def halves_of(field):
    return [(box, told_of(cells_in(field, box))) for box in half_boxes(field[0])]


def told_of(cells):
    return (sum(cells), min(cells), max(cells))


def put_together(parts):
    total = sum([part[0] for part in parts])
    return (total, min([part[1] for part in parts]), max([part[2] for part in parts]))


def holds_halves(field, thing):
    boxes = half_boxes(field[0])
    if not isinstance(thing, list) or len(thing) != len(boxes):
        return False
    if not all([is_entry(field[0], box, entry) for box, entry in zip(boxes, thing)]):
        return False
    told = dict(thing)
    return all([is_right(field, told, box) for box in boxes])


# The kinds are looked at first: True and 1 are equal to Python.
def is_entry(sides, box, thing):
    if not isinstance(thing, tuple) or len(thing) != 2:
        return False
    return is_box(sides, thing[0]) and thing[0] == box and are_wholes(thing[1], 3)


def is_right(field, told, box):
    ways = long_ways(box)
    if len(ways) == 0:
        return told[box] == thrice(cell_at(field, box[0]))
    return all([told[box] == from_halves(told, box, way) for way in ways])


def thrice(number):
    return (number, number, number)


def long_ways(box):
    return [way for way in range(len(box[0])) if box[0][way] < box[1][way]]


def from_halves(told, box, way):
    halves = two_halves((box[0][way], box[1][way]))
    return put_together([told[with_stretch(box, way, half)] for half in halves])


def with_stretch(box, way, stretch):
    return (replaced(box[0], way, stretch[0]), replaced(box[1], way, stretch[1]))


def box_cover(sides, box):
    return boxes_by([cover(side, low, high) for side, low, high in zip(sides, box[0], box[1])])


def by_halves(sides, table, box):
    return put_together([entry_at(table, (piece,))[1] for piece in box_cover(sides, box)])


def changed_halves(sides, table, place, number):
    boxes = boxes_with(sides, place)
    told = dict(table)
    # A half has fewer cells than the box it is put into, so it is ready by then.
    for box in sorted(boxes, key=many_cells):
        ways = long_ways(box)
        told[box] = thrice(number) if len(ways) == 0 else from_halves(told, box, ways[0])
    return ([(entry[0], told[entry[0]]) for entry in table], boxes)


def boxes_with(sides, place):
    return boxes_by([stretches_with(side, number) for side, number in zip(sides, place)])


def stretches_with(side, number):
    return [stretch for stretch in stretches(side) if stretch[0] <= number <= stretch[1]]


def many_cells(box):
    return product([last - first + 1 for first, last in zip(box[0], box[1])])
