"""Questions of a row's cells by worth, gone down from half to half of the worths."""

from boxsums.errors import NoNumber
from boxsums.halves import two_halves
from boxsums.parted import flags_at, worth_numbers, worths


# Where a question stands: the stretch of worths, and from and to among the cells that it has.
def at_first(standing, low, high):
    return ((0, max(standing)), low, high + 1)


def goes_on(gone):
    return gone[0][0] < gone[0][1]


def in_first_half(flags, gone):
    return flags[gone[1]:gone[2]].count(0)


def gone_down(flags, gone, half):
    return (two_halves(gone[0])[half], flags[:gone[1]].count(half), flags[:gone[2]].count(half))


def how_many_less(numbers, low, high, number):
    below = len([worth for worth in worths(numbers) if worth < number])
    standing = worth_numbers(numbers)
    if below > max(standing):
        return high - low + 1
    gone = at_first(standing, low, high)
    less = 0
    while goes_on(gone):
        flags = flags_at(standing, gone[0])
        half = 1 if below >= two_halves(gone[0])[1][0] else 0
        less = less + half * in_first_half(flags, gone)
        gone = gone_down(flags, gone, half)
    return less


def so_manieth(numbers, low, high, many):
    if many < 0 or many > high - low:
        raise NoNumber("there are not so many cells")
    standing = worth_numbers(numbers)
    gone = at_first(standing, low, high)
    trace = [gone]
    ahead = many
    while goes_on(gone):
        flags = flags_at(standing, gone[0])
        first = in_first_half(flags, gone)
        half = 1 if ahead >= first else 0
        ahead = ahead - half * first
        gone = gone_down(flags, gone, half)
        trace.append(gone)
    return (worths(numbers)[gone[0][0]], trace)
