"""Moving windows: the least and the greatest of each, and the line of places that may still be least."""

from boxsums.errors import NoBox
from boxsums.fields import first_place
from boxsums.helper import are_wholes, is_whole, places_between
from boxsums.plain import cells_in


def are_sizes(sides, thing):
    if not are_wholes(thing, len(sides)):
        return False
    return all([1 <= size <= side for size, side in zip(thing, sides)])


def windows(field, sizes):
    sides = field[0]
    if not are_sizes(sides, sizes):
        raise NoBox("these are no sizes of windows of the field")
    last = tuple([side - size for side, size in zip(sides, sizes)])
    return [window_at(field, place, sizes) for place in places_between(first_place(sides), last)]


# Places and cells of a box stand in the same order, so the first cell found is at the first place.
def window_at(field, place, sizes):
    high = tuple([number + size - 1 for number, size in zip(place, sizes)])
    places = places_between(place, high)
    cells = cells_in(field, (place, high))
    least = min(cells)
    greatest = max(cells)
    return (place, least, places[cells.index(least)], greatest, places[cells.index(greatest)])


def line(numbers, size):
    if not is_whole(size) or size < 1 or size > len(numbers):
        raise NoBox("this is no size of windows of the row")
    found = []
    standing = []
    # A place that has fallen out once never comes in again, so only those that stood are asked.
    for place, number in enumerate(numbers):
        standing = [ahead for ahead in standing if ahead > place - size and numbers[ahead] <= number]
        standing.append(place)
        found.append(tuple(standing))
    return found
