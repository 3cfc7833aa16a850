"""The stretches of a side, halved again and again, and the fewest of them that fill a stretch."""


def two_halves(stretch):
    middle = (stretch[0] + stretch[1]) // 2
    return [(stretch[0], middle), (middle + 1, stretch[1])]


def stretches(side):
    found = []
    waiting = [(0, side - 1)]
    while len(waiting) > 0:
        stretch = waiting.pop()
        found.append(stretch)
        if stretch[0] < stretch[1]:
            waiting.extend(two_halves(stretch))
    return sorted(found)


# The figures that side - 1 has when written by twos, which are none for 0.
def height(side):
    return (side - 1).bit_length()


def cover(side, low, high):
    found = []
    waiting = [(0, side - 1)]
    while len(waiting) > 0:
        stretch = waiting.pop()
        if low <= stretch[0] and stretch[1] <= high:
            found.append(stretch)
        elif stretch[0] <= high and low <= stretch[1]:
            waiting.extend(two_halves(stretch))
    return sorted(found)
