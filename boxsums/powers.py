"""The powers of a field: leasts and greatests of pieces whose lengths are powers of two."""

from boxsums.fields import all_places, cell_at, is_place
from boxsums.helper import are_wholes, entry_at, is_whole, one_of_each, replaced
from boxsums.plain import cells_in


def two_to(power):
    number = 1
    for turn in range(power):
        number = number * 2
    return number


def greatest_power(length):
    return length.bit_length() - 1


def all_pieces(sides):
    pieces = []
    for place in all_places(sides):
        choices = [list(range(greatest_power(side - number) + 1)) for side, number in zip(sides, place)]
        for powers in one_of_each(choices):
            pieces.append((place, powers))
    return pieces


def powers_of(field):
    return [entry_of(field, place, powers) for place, powers in all_pieces(field[0])]


def entry_of(field, place, powers):
    last = tuple([number + two_to(power) - 1 for number, power in zip(place, powers)])
    cells = cells_in(field, (place, last))
    return (place, powers, min(cells), max(cells))


def put_together(parts):
    return (min([part[0] for part in parts]), max([part[1] for part in parts]))


def holds_powers(field, thing):
    pieces = all_pieces(field[0])
    if not isinstance(thing, list) or len(thing) != len(pieces):
        return False
    if not all([is_entry(field[0], piece, entry) for piece, entry in zip(pieces, thing)]):
        return False
    told = dict([((entry[0], entry[1]), (entry[2], entry[3])) for entry in thing])
    return all([is_right(field, told, piece) for piece in pieces])


# The kinds are looked at first: True and 1 are equal to Python.
def is_entry(sides, piece, thing):
    if not isinstance(thing, tuple) or len(thing) != 4 or not is_place(sides, thing[0]):
        return False
    if not are_wholes(thing[1], len(sides)) or not is_whole(thing[2]) or not is_whole(thing[3]):
        return False
    return (thing[0], thing[1]) == piece


def is_right(field, told, piece):
    ways = [way for way in range(len(piece[1])) if piece[1][way] > 0]
    if len(ways) == 0:
        cell = cell_at(field, piece[0])
        return told[piece] == (cell, cell)
    return all([told[piece] == from_lesser(told, piece, way) for way in ways])


def from_lesser(told, piece, way):
    place = piece[0]
    power = piece[1][way] - 1
    powers = replaced(piece[1], way, power)
    further = replaced(place, way, place[way] + two_to(power))
    return put_together([told[(place, powers)], told[(further, powers)]])


def met_by(sides, box):
    powers = tuple([greatest_power(last - first + 1) for first, last in zip(box[0], box[1])])
    choices = [starts(first, last, power) for first, last, power in zip(box[0], box[1], powers)]
    return [(place, powers) for place in one_of_each(choices)]


def starts(first, last, power):
    return sorted(set([first, last - two_to(power) + 1]))


def by_powers(sides, table, box):
    entries = [entry_at(table, piece) for piece in met_by(sides, box)]
    return put_together([(entry[2], entry[3]) for entry in entries])
