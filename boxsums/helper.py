"""What several modules need: kinds of things, choices way by way, products, the order of places."""


# A truth is an int to Python, but no whole number here.
def is_whole(thing):
    return isinstance(thing, int) and not isinstance(thing, bool)


def are_wholes(thing, many):
    if not isinstance(thing, tuple) or len(thing) != many:
        return False
    return all([is_whole(number) for number in thing])


def product(numbers):
    result = 1
    for number in numbers:
        result = result * number
    return result


# The first choice goes slowest, so of rising choices the tuples come rising.
def one_of_each(choices):
    chosen = [()]
    for things in choices:
        longer = []
        for ahead in chosen:
            for thing in things:
                longer.append(ahead + (thing,))
        chosen = longer
    return chosen


def places_between(low, high):
    return one_of_each([list(range(first, last + 1)) for first, last in zip(low, high)])


def index_of(sides, place):
    index = 0
    for side, number in zip(sides, place):
        index = index * side + number
    return index


def replaced(numbers, way, number):
    return numbers[:way] + (number,) + numbers[way + 1:]


# A key comes ahead of the entry that begins with it, as tuples compare: so no table need be gone
# through from its first entry on.
def entry_at(table, key):
    low = 0
    high = len(table) - 1
    while low < high:
        middle = (low + high) // 2
        if table[middle] < key:
            low = middle + 1
        else:
            high = middle
    return table[low]
