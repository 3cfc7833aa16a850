"""Fields and boxes turned about: ways exchanged, mirrored and stretched, and fields cut to a box."""

from boxsums.errors import NoField, NoTurn
from boxsums.fields import MOST_CELLS, all_places, ask_for_box, cell_at
from boxsums.helper import are_wholes, product


def ask_for_order(many, thing):
    if not are_wholes(thing, many) or sorted(thing) != list(range(many)):
        raise NoTurn("an order is a tuple with each way once")


def ask_for_ways(many, thing):
    if not isinstance(thing, tuple) or not are_wholes(thing, len(thing)):
        raise NoTurn("ways are a tuple of whole numbers")
    if thing != tuple([way for way in range(many) if way in thing]):
        raise NoTurn("ways are rising, each a way of the field")


def ask_for_factors(many, thing):
    if not are_wholes(thing, many) or not all([factor >= 1 for factor in thing]):
        raise NoTurn("factors are a tuple with a whole number from 1 on for each way")


# Of each place of the new field source tells the place of the old one whose cell stands there. The
# cells are counted first: factors may be so great that the places could never be gone through.
def field_from(field, sides, source):
    if product(sides) > MOST_CELLS:
        raise NoField("there are more cells than a field may have")
    return (sides, tuple([cell_at(field, source(place)) for place in all_places(sides)]))


def ways_exchanged(numbers, order):
    return tuple([numbers[order.index(way)] for way in range(len(order))])


def exchanged(field, order):
    sides = field[0]
    ask_for_order(len(sides), order)
    return field_from(field, ways_exchanged(sides, order), lambda place: tuple([place[way] for way in order]))


def place_mirrored(sides, place, some):
    last = [side - 1 for side in sides]
    return tuple([last[way] - number if way in some else number for way, number in enumerate(place)])


def mirrored(field, some):
    sides = field[0]
    ask_for_ways(len(sides), some)
    return field_from(field, sides, lambda place: place_mirrored(sides, place, some))


def times(numbers, factors):
    return tuple([number * factor for number, factor in zip(numbers, factors)])


def place_shrunk(place, factors):
    return tuple([number // factor for number, factor in zip(place, factors)])


def stretched(field, factors):
    sides = field[0]
    ask_for_factors(len(sides), factors)
    return field_from(field, times(sides, factors), lambda place: place_shrunk(place, factors))


def place_moved(place, low):
    return tuple([number + first for number, first in zip(place, low)])


def cut(field, box):
    ask_for_box(field[0], box)
    low = box[0]
    sides = tuple([last - first + 1 for first, last in zip(low, box[1])])
    return field_from(field, sides, lambda place: place_moved(place, low))


def box_exchanged(sides, box, order):
    ask_for_order(len(sides), order)
    ask_for_box(sides, box)
    return (ways_exchanged(box[0], order), ways_exchanged(box[1], order))


# Where a way is mirrored the ends come in the other order: there low's number comes of high's.
def box_mirrored(sides, box, some):
    ask_for_ways(len(sides), some)
    ask_for_box(sides, box)
    ends = [place_mirrored(sides, place, some) for place in box]
    pairs = list(zip(ends[0], ends[1]))
    return (tuple([min(pair) for pair in pairs]), tuple([max(pair) for pair in pairs]))


def box_stretched(sides, box, factors):
    ask_for_factors(len(sides), factors)
    ask_for_box(sides, box)
    behind = times([last + 1 for last in box[1]], factors)
    return (times(box[0], factors), tuple([number - 1 for number in behind]))
