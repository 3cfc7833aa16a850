"""Fields, places and boxes."""

from boxsums.errors import NoBox, NoField
from boxsums.helper import are_wholes, index_of, is_whole, places_between, product

MOST_WAYS = 3
MOST_CELLS = 120


def are_sides(thing):
    if not isinstance(thing, tuple) or len(thing) < 1 or len(thing) > MOST_WAYS:
        return False
    return all([is_whole(side) and side >= 1 for side in thing])


def is_field(thing):
    if not isinstance(thing, tuple) or len(thing) != 2 or not are_sides(thing[0]):
        return False
    many = product(thing[0])
    return many <= MOST_CELLS and are_wholes(thing[1], many)


def field_of(sides, cells):
    if not isinstance(sides, (list, tuple)) or not isinstance(cells, (list, tuple)):
        raise NoField("sides and cells are each a list or a tuple")
    field = (tuple(sides), tuple(cells))
    if not is_field(field):
        raise NoField("these sides and cells make no field")
    return field


def is_place(sides, thing):
    if not are_wholes(thing, len(sides)):
        return False
    return all([0 <= number < side for number, side in zip(thing, sides)])


def is_box(sides, thing):
    if not isinstance(thing, tuple) or len(thing) != 2:
        return False
    if not is_place(sides, thing[0]) or not is_place(sides, thing[1]):
        return False
    return all([first <= last for first, last in zip(thing[0], thing[1])])


def ask_for_box(sides, thing):
    if not is_box(sides, thing):
        raise NoBox("this is no box of these sides")


def first_place(sides):
    return tuple([0 for side in sides])


def last_place(sides):
    return tuple([side - 1 for side in sides])


def cell_at(field, place):
    return field[1][index_of(field[0], place)]


def all_places(sides):
    return places_between(first_place(sides), last_place(sides))


def all_boxes(sides):
    boxes = []
    for low in all_places(sides):
        for high in places_between(low, last_place(sides)):
            boxes.append((low, high))
    return boxes
