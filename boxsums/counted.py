"""The boxes that have a told sum, and how many there are."""

from boxsums.fields import all_boxes
from boxsums.running import running_of, sums_along


def how_many_of(field, number):
    return len(all_of(field, number))


def all_of(field, number):
    sides = field[0]
    running = running_of(field)
    found = []
    for base in all_boxes(sides[:-1]):
        for first, last in runs_of(sums_along(sides, running, base), number):
            found.append((base[0] + (first,), base[1] + (last,)))
    return sorted(found)


# A run has the number where all up to its end is so much more than all ahead of its start: so for each
# end only those starts are gone through that fit.
def runs_of(sums, number):
    starts = {0: [0]}
    total = 0
    found = []
    for last, one in enumerate(sums):
        total = total + one
        found.extend([(first, last) for first in starts.get(total - number, [])])
        starts.setdefault(total, []).append(last + 1)
    return found
