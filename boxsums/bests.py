"""The box of greatest sum, and papers that show that no box has a greater one."""

from boxsums.fields import all_boxes, is_box
from boxsums.helper import are_wholes
from boxsums.running import running_of, sum_by_running, sums_along


# The least numbers that may stand there: each is the greatest sum of a box over the base that ends so.
def least_bests(sums):
    bests = []
    ahead = 0
    for number in sums:
        ahead = number + max(ahead, 0)
        bests.append(ahead)
    return tuple(bests)


def best_of(field):
    sides = field[0]
    running = running_of(field)
    boxes = all_boxes(sides)
    sums = [sum_by_running(sides, running, box) for box in boxes]
    most = max(sums)
    paper = [(base, least_bests(sums_along(sides, running, base))) for base in all_boxes(sides[:-1])]
    return (most, boxes[sums.index(most)], paper)


def holds_bests(field, number, paper):
    sides = field[0]
    bases = all_boxes(sides[:-1])
    if not isinstance(paper, list) or len(paper) != len(bases):
        return False
    if not all([is_entry(sides, base, entry) for base, entry in zip(bases, paper)]):
        return False
    running = running_of(field)
    return all([are_bests(sums_along(sides, running, base), bests, number) for base, bests in paper])


# The kinds are looked at first: True and 1 are equal to Python.
def is_entry(sides, base, thing):
    if not isinstance(thing, tuple) or len(thing) != 2:
        return False
    return is_box(sides[:-1], thing[0]) and thing[0] == base and are_wholes(thing[1], sides[-1])


def are_bests(sums, bests, number):
    ahead = 0
    for total, best in zip(sums, bests):
        if best > number or best < total + max(ahead, 0):
            return False
        ahead = best
    return True
