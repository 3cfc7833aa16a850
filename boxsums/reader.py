"""Numbers, places, boxes and fields, each read from just such a text as writes it."""

from boxsums.errors import NoText
from boxsums.fields import MOST_CELLS, are_sides, is_box, is_place
from boxsums.helper import product

FIGURES = "0123456789"
MOST_FIGURES = 30


def ask_for_text(thing):
    if not isinstance(thing, str):
        raise NoText(0, "this is no text")


def writes_number(word):
    figures = word[1:] if word.startswith("-") else word
    if len(figures) < 1 or len(figures) > MOST_FIGURES:
        return False
    if not all([figure in FIGURES for figure in figures]):
        return False
    return word == "0" or figures[0] != "0"


def numbers_by(words, line):
    if not all([writes_number(word) for word in words]):
        raise NoText(line, "a word stands here that writes no number")
    return tuple([int(word) for word in words])


def read_number(word):
    return numbers_by([word], 0)[0]


def read_place(sides, word):
    place = numbers_by(word.split(","), 0)
    if not is_place(sides, place):
        raise NoText(0, "this is no place of these sides")
    return place


def read_box(sides, text):
    ask_for_text(text)
    box = tuple([read_place(sides, end) for end in text.split("..")])
    if not is_box(sides, box):
        raise NoText(0, "this is no box of these sides")
    return box


def read_sides(text):
    words = text.split(" ")
    sides = numbers_by(words[1:], 0)
    if words[0] != "sides" or not are_sides(sides) or product(sides) > MOST_CELLS:
        raise NoText(0, "the first line tells no sides of a field")
    return sides


def read_cells(text, line, many):
    cells = numbers_by(text.split(" "), line)
    if len(cells) != many:
        raise NoText(line, "a line has as many cells as the last side")
    return cells


def read_field(text):
    ask_for_text(text)
    lines = text.split("\n")
    sides = read_sides(lines[0])
    awaited = 1 + product(sides[:-1])
    cells = []
    for line in range(1, min(awaited, len(lines))):
        cells.extend(read_cells(lines[line], line, sides[-1]))
    # The first line too many, or that which lacks, has the lesser count as its number.
    if len(lines) != awaited:
        raise NoText(min(awaited, len(lines)), "there are too many lines, or too few")
    return (sides, tuple(cells))
