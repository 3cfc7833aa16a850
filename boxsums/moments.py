"""The moments of steps: running sums by which alone the sum of a box is told while whole boxes change."""

from boxsums.fields import all_places
from boxsums.helper import index_of, product
from boxsums.running import corners, running_of


# A further way counts as much as all sets ahead of it are many, so the sets come by their numbers.
def sets_of_ways(many):
    found = [[]]
    for way in range(many):
        found = found + [ways + [way] for ways in found]
    return found


def moments_of(sides, steps):
    return [running_of((sides, times_places(sides, steps, ways))) for ways in sets_of_ways(len(sides))]


def times_places(sides, steps, ways):
    return [step * product([place[way] for way in ways]) for step, place in zip(steps, all_places(sides))]


# A step at q lies, up to p, in as many cells as the numbers p + 1 - q, way by way, multiplied; the sets
# are the terms of that product.
def sum_up_to(sides, moments, place):
    index = index_of(sides, place)
    total = 0
    for ways, table in zip(sets_of_ways(len(sides)), moments):
        factors = [-1 if way in ways else number + 1 for way, number in enumerate(place)]
        total = total + table[index] * product(factors)
    return total


def sum_by_moments(sides, moments, box):
    return sum([sign * sum_up_to(sides, moments, place) for sign, place in corners(sides, box)])
