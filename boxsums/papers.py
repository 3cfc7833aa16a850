"""Papers for one box: a sum and two ends for its cells, shown by cutting it down to single cells."""

from boxsums.fields import cell_at
from boxsums.halves import two_halves
from boxsums.helper import are_wholes, is_whole, replaced
from boxsums.plain import cells_in
from boxsums.tables import long_ways, put_together, thrice, told_of, with_stretch

# Where the papers of the two parts stand in a cut.
PARTS = (4, 5)


def paper_for(field, box):
    claim = told_of(cells_in(field, box))
    ways = long_ways(box)
    if len(ways) == 0:
        return ("cell", claim)
    way = ways[0]
    halves = two_halves((box[0][way], box[1][way]))
    papers = [paper_for(field, with_stretch(box, way, half)) for half in halves]
    return ("cut", claim, way, halves[0][1], papers[0], papers[1])


def has_form(thing, word, many):
    if not isinstance(thing, tuple) or len(thing) != many:
        return False
    return thing[0] == word and are_wholes(thing[1], 3)


def is_cell(thing):
    return has_form(thing, "cell", 2)


def is_cut(thing):
    return has_form(thing, "cut", 6)


def is_claimed(thing):
    return is_cell(thing) or is_cut(thing)


def lets_by(claim, told):
    return claim[0] == told[0] and claim[1] <= told[1] and claim[2] >= told[2]


def cut_boxes(box, way, at):
    return [with_stretch(box, way, (box[0][way], at)), with_stretch(box, way, (at + 1, box[1][way]))]


def holds_cell(field, box, paper):
    return box[0] == box[1] and lets_by(paper[1], thrice(cell_at(field, box[0])))


def cuts_box(box, way, at):
    if not is_whole(way) or not is_whole(at) or way < 0 or way >= len(box[0]):
        return False
    return box[0][way] <= at < box[1][way]


def parts_of(paper):
    return [paper[part] for part in PARTS]


# The papers of the parts are only asked for their claims here.
def holds_cut(box, paper):
    if not cuts_box(box, paper[2], paper[3]) or not all([is_claimed(part) for part in parts_of(paper)]):
        return False
    return lets_by(paper[1], put_together([part[1] for part in parts_of(paper)]))


# A paper may be nested deeper than calls should go, so the papers within it wait in a list. Each has a
# lesser box than the one around it, so there is an end whatever the thing.
def holds_paper(field, box, thing):
    waiting = [(box, thing)]
    while len(waiting) > 0:
        piece = waiting.pop()
        if is_cut(piece[1]) and holds_cut(piece[0], piece[1]):
            boxes = cut_boxes(piece[0], piece[1][2], piece[1][3])
            waiting.extend(list(zip(boxes, parts_of(piece[1]))))
        elif not is_cell(piece[1]) or not holds_cell(field, piece[0], piece[1]):
            return False
    return True


def renewed(box, paper, place, number):
    boxes = [box]
    cuts = []
    inner = paper
    while is_cut(inner):
        half = 0 if place[inner[2]] <= inner[3] else 1
        cuts.append((inner, PARTS[half]))
        boxes.append(cut_boxes(boxes[-1], inner[2], inner[3])[half])
        inner = inner[PARTS[half]]
    fresh = ("cell", thrice(number))
    for cut, part in reversed(cuts):
        fresh = cut_anew(replaced(cut, part, fresh))
    return (fresh, sorted(boxes))


def cut_anew(paper):
    return replaced(paper, 1, put_together([part[1] for part in parts_of(paper)]))
