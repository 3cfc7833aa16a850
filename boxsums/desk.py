"""A desk keeps a field: rows told to it change the field or ask of it, each answered with a text."""

from boxsums.bests import best_of
from boxsums.counted import how_many_of
from boxsums.errors import NoBack, NoBox, NoNumber, NoRow, NoText
from boxsums.helper import index_of, replaced
from boxsums.plain import cells_in, greatest_in, least_in, sum_in
from boxsums.reader import read_box, read_field, read_number, read_place
from boxsums.running import holds_running
from boxsums.sought import how_many_less, so_manieth
from boxsums.steps import field_by, lifted, steps_of
from boxsums.tables import box_cover
from boxsums.texts import show_box, show_field

# The first word of each row, and what the words behind it are.
ROWS = {
    "put": ("PLACE", "N"),
    "lift": ("BOX", "N"),
    "back": (),
    "sum": ("BOX",),
    "least": ("BOX",),
    "greatest": ("BOX",),
    "cover": ("BOX",),
    "best": (),
    "count": ("N",),
    "less": ("BOX", "N"),
    "nth": ("BOX", "N"),
    "holds": ("N", "NUMBERS"),
    "text": (),
}


def words_of(row):
    if not isinstance(row, str):
        raise NoRow("a row is a text")
    words = row.split(" ")
    if words[0] not in ROWS or len(words) != 1 + len(ROWS[words[0]]):
        raise NoRow("there is no such row")
    return words


def place_by(sides, word):
    try:
        return read_place(sides, word)
    except NoText:
        raise NoBox("this is no place of the field") from None


def box_by(sides, word):
    try:
        return read_box(sides, word)
    except NoText:
        raise NoBox("this is no box of the field") from None


def number_by(word):
    try:
        return read_number(word)
    except NoText:
        raise NoNumber("this word writes no number") from None


def thing_by(sides, kind, word):
    if kind == "PLACE":
        return place_by(sides, word)
    if kind == "BOX":
        return box_by(sides, word)
    if kind == "N":
        return number_by(word)
    return [number_by(part) for part in word.split(",")]


def things_by(sides, words):
    return [thing_by(sides, kind, word) for kind, word in zip(ROWS[words[0]], words[1:])]


def field_put(field, given):
    return (field[0], replaced(field[1], index_of(field[0], given[0]), given[1]))


def field_lifted(field, given):
    return field_by(field[0], lifted(field[0], steps_of(field), given[0], given[1])[0])


def tell_sum(field, given):
    return str(sum_in(field, given[0]))


def tell_least(field, given):
    return str(least_in(field, given[0]))


def tell_greatest(field, given):
    return str(greatest_in(field, given[0]))


def tell_cover(field, given):
    return " ".join([show_box(box) for box in box_cover(field[0], given[0])])


def tell_best(field, given):
    best = best_of(field)
    return str(best[0]) + " " + show_box(best[1])


def tell_count(field, given):
    return str(how_many_of(field, given[0]))


def tell_less(field, given):
    cells = cells_in(field, given[0])
    return str(how_many_less(cells, 0, len(cells) - 1, given[1]))


def tell_nth(field, given):
    cells = cells_in(field, given[0])
    return str(so_manieth(cells, 0, len(cells) - 1, given[1])[0])


def tell_holds(field, given):
    if len(given[1]) != given[0]:
        raise NoNumber("there are not as many numbers as told")
    return "yes" if holds_running(field, given[1]) else "no"


def tell_text(field, given):
    return show_field(field)


DEEDS = {"put": field_put, "lift": field_lifted}
ANSWERS = {
    "sum": tell_sum,
    "least": tell_least,
    "greatest": tell_greatest,
    "cover": tell_cover,
    "best": tell_best,
    "count": tell_count,
    "less": tell_less,
    "nth": tell_nth,
    "holds": tell_holds,
    "text": tell_text,
}


class Desk:
    def __init__(self, text):
        self.field = read_field(text)
        self.past = []

    def say(self, row):
        words = words_of(row)
        given = things_by(self.field[0], words)
        if words[0] in ANSWERS:
            return ANSWERS[words[0]](self.field, given)
        if words[0] == "back":
            self.take_back()
        else:
            self.go_on(DEEDS[words[0]](self.field, given))
        return "ok"

    def go_on(self, field):
        self.past.append(self.field)
        self.field = field

    def take_back(self):
        if len(self.past) == 0:
            raise NoBack("there is nothing to take back")
        self.field = self.past.pop()
