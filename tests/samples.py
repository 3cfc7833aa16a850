"""Sides, cells, fields and odd things for the tests, and plain answers to hold others against."""

import itertools
import random

THIRTY = 10 ** 30 - 1

SMALL_SIDES = [
    (1,), (2,), (3,), (4,), (5,), (7,), (8,), (9,),
    (1, 1), (1, 4), (4, 1), (2, 2), (2, 3), (3, 4), (5, 2),
    (1, 1, 1), (1, 1, 3), (1, 3, 1), (3, 1, 1), (2, 2, 2), (2, 1, 3), (3, 2, 2),
]
GREAT_SIDES = [
    (120,), (64,), (119,), (1, 120), (120, 1), (10, 12), (2, 60), (40, 3),
    (1, 1, 120), (120, 1, 1), (1, 120, 1), (4, 5, 6), (6, 5, 4), (2, 3, 20),
]


def deep(wrap, thing=0, times=30):
    for turn in range(times):
        thing = wrap(thing)
    return thing


def odd_things():
    """Things of every kind, made anew at each call."""
    return [
        None, True, False, 0, 1, -1, 2, THIRTY, -THIRTY,
        "", "0", "00", "(0,)", "a text", "\n", "~ ~",
        (), (0,), (1,), (None,), (True,), ("0",), ((),), ((), ()), ((0,), ()), ((), (0,)),
        (None, None), (0, 0), (0, 0, 0), ("0", "0"), (True, False), ([0], [0]), ({}, {}),
        ((0,), None), (None, (0,)), ((0,), 0), ((0,), "0"), ((0,), [0]), ([0], (0,)),
        [], [0], [None], [True], [()], [[]], [{}], [0, 0], ["0"], [(0,), (0,)],
        [None, (0, 0)], [((0,), (0,))], [(((0,), (0,)),)], [((0,), (0,), 0)],
        {}, {0: 0}, {"sides": (1,), "cells": (0,)}, {(0,): [0]}, {0: (1,), 1: (0,)},
        deep(lambda thing: (thing,)), deep(lambda thing: [thing]), deep(lambda thing: {0: thing}),
        deep(lambda thing: (thing, thing), times=8), deep(lambda thing: [thing, thing], times=8),
        deep(lambda thing: (thing, [thing], {"a": thing}), times=5),
    ]


def wrong_numbers():
    """Things that stand badly where a whole number is asked, made anew at each call."""
    return [None, True, False, "", "0", "1", (), (0,), (1,), [], [0], [1], {}, {0: 1}, {1: 0}]


def many_cells(sides):
    product = 1
    for side in sides:
        product *= side
    return product


def cell_lists(sides):
    """Lists of cells for sides: small, alike, below 0, nought, thirty figures, and mixed ones."""
    many = many_cells(sides)
    chance = random.Random(f"{sides}")
    return [
        [chance.randrange(-9, 10) for k in range(many)],
        [7] * many,
        [0] * many,
        [chance.randrange(-50, 0) for k in range(many)],
        [chance.randrange(-THIRTY, THIRTY + 1) for k in range(many)],
        [chance.choice([-THIRTY, -1, 0, 1, THIRTY]) for k in range(many)],
        list(range(many)),
    ]


def fields_for(list_of_sides):
    return [(sides, tuple(cells)) for sides in list_of_sides for cells in cell_lists(sides)]


def one_field_each(list_of_sides):
    """For each sides one field, the sorts of cells taken in turn."""
    fields = []
    for turn, sides in enumerate(list_of_sides):
        lists = cell_lists(sides)
        fields.append((sides, tuple(lists[turn % len(lists)])))
    return fields


def plain_places(sides):
    return list(itertools.product(*[range(side) for side in sides]))


def plain_boxes(sides):
    places = plain_places(sides)
    return [(low, high) for low in places for high in places
            if all(a <= b for a, b in zip(low, high))]


def lies_in(place, box):
    return all(a <= number <= b for a, number, b in zip(box[0], place, box[1]))


def plain_cells(field, box):
    """The cells of a box, gone through one by one over the whole field."""
    sides, cells = field
    return [cell for place, cell in zip(plain_places(sides), cells) if lies_in(place, box)]


def some_boxes(sides, most):
    """At most so many boxes of the sides, the single ends and the whole among them."""
    first = tuple(0 for side in sides)
    last = tuple(side - 1 for side in sides)
    boxes = [(first, first), (last, last), (first, last)]
    chance = random.Random(f"boxes {sides}")
    while len(boxes) < most:
        pairs = [sorted((chance.randrange(side), chance.randrange(side))) for side in sides]
        boxes.append((tuple(pair[0] for pair in pairs), tuple(pair[1] for pair in pairs)))
    return boxes


def boxes_for(sides, most=60):
    boxes = plain_boxes(sides) if many_cells(sides) <= 12 else some_boxes(sides, most)
    return boxes


def with_cell(field, place, number):
    """The field with another number at a place."""
    sides, cells = field
    changed = list(cells)
    changed[plain_places(sides).index(place)] = number
    return (sides, tuple(changed))


def things_that_are_no_box(sides):
    """Things that are no box of the sides, made anew at each call."""
    first = tuple(0 for side in sides)
    last = tuple(side - 1 for side in sides)
    wrong = []
    for way, side in enumerate(sides):
        for number in [side, side + 1, -1, -side, THIRTY, -THIRTY] + wrong_numbers():
            bad = first[:way] + (number,) + first[way + 1:]
            wrong.extend([(bad, bad), (first, bad), (bad, last)])
        if side > 1:
            wrong.append((first[:way] + (1,) + first[way + 1:], first))
    wrong.extend([
        [first, last], (first,), (first, last, last), (first, first, last), (), first, last,
        (list(first), last), (first, list(last)), (list(first), list(last)),
        (first + (0,), last), (first, last + (0,)), (first + (0,), last + (0,)),
        (first[1:], last), (first, last[1:]), (first[1:], last[1:]),
        {0: first, 1: last}, {first: last}, (first, None), (None, last), ((first, last),),
        ((first,), (last,)), (dict.fromkeys(first, 0), last),
    ])
    return wrong


def spoilt_parts(thing):
    """Whatever comes of a tuple of tuples and numbers by making one thing in it another one."""
    if not isinstance(thing, tuple):
        for other in [thing + 1, thing - 1, thing + THIRTY * 10 ** 9] + wrong_numbers():
            yield other
        return
    for other in [list(thing), dict(enumerate(thing)), thing + (0,), thing + thing[-1:], thing[:-1], thing[1:],
                  None, True, 0, "a text", (), [], {}, (thing,)]:
        yield other
    for index, part in enumerate(thing):
        for other in spoilt_parts(part):
            yield thing[:index] + (other,) + thing[index + 1:]


def some_indexes(many, most):
    """At most so many numbers below many, the first and the last among them."""
    if many <= most:
        return list(range(many))
    chance = random.Random(f"indexes {many}")
    return sorted({0, many - 1} | {chance.randrange(many) for turn in range(most - 2)})


def spoilt_tables(table, most=4):
    """Things that the table is not, each but a little unlike it; most bounds the entries spoilt."""
    things = [tuple(table), dict(enumerate(table)), [table], [tuple(table)], table + table[-1:], table + [None],
              [None] * len(table), [], table[1:], table[:-1], table * 2, repr(table)]
    if table[::-1] != table:
        things.append(table[::-1])
    indexes = some_indexes(len(table), most)
    for index in indexes:
        ahead, entry, behind = table[:index], table[index], table[index + 1:]
        things.extend([ahead + behind, ahead + [entry, entry] + behind])
        for other in indexes:
            if table[other] != entry:
                things.append(ahead + [table[other]] + behind)
                exchanged = list(table)
                exchanged[index], exchanged[other] = exchanged[other], exchanged[index]
                things.append(exchanged)
        things.extend(ahead + [other] + behind for other in spoilt_parts(entry))
    return things


SMALL_ROWS = [1, 2, 3, 4, 5, 6, 7, 8, 9]
GREAT_ROWS = [120, 64, 119, 33]


def rows_for(lengths):
    """For each length rows of every sort of cells."""
    return [row for length in lengths for row in cell_lists((length,))]


def one_row_each(lengths):
    """For each length one row, the sorts of cells taken in turn."""
    return [list(field[1]) for field in one_field_each([(length,) for length in lengths])]


def plain_told(cells):
    return (sum(cells), min(cells), max(cells))


def all_stretches(length):
    """Every (low, high) of a row."""
    return [(low, high) for low in range(length) for high in range(low, length)]


def stretches_asked(length, most=40):
    """Every (low, high) of a small row, at most so many of a great one."""
    if length <= 9:
        return all_stretches(length)
    return [(box[0][0], box[1][0]) for box in some_boxes((length,), most)]
