"""A plain keeper to hold others against: it goes down all halves, and keeps all that was ahead."""

from tests.samples import plain_told


def middle_of(low, high):
    return (low + high) // 2


def anew(entries, low, high):
    """Sum, least, greatest of a longer stretch put together anew from its halves; the waits stay."""
    middle = middle_of(low, high)
    first, second, waits = entries[low, middle], entries[middle + 1, high], entries[low, high][3]
    entries[low, high] = (first[0] + second[0] + waits * (high - low + 1), min(first[1], second[1]) + waits,
                          max(first[2], second[2]) + waits, waits)


def right_entries(row, waits_of):
    """Right entries of a row, the waits of each longer stretch as told by waits_of(low, high)."""
    entries = {}

    def go(low, high, around):
        if low == high:
            entries[low, high] = (row[low] - around,) * 3 + (0,)
            return
        waits = waits_of(low, high)
        entries[low, high] = (0, 0, 0, waits)
        middle = middle_of(low, high)
        go(low, middle, around + waits)
        go(middle + 1, high, around + waits)
        anew(entries, low, high)

    go(0, len(row) - 1, 0)
    return sorted(entries.items())


def put_anew_around(entries, stretch):
    """The entries with all that is around a stretch put together anew."""
    told = dict(entries)
    for low, high in sorted(told, key=lambda pair: pair[1] - pair[0]):
        if (low, high) != stretch and low <= stretch[0] and stretch[1] <= high:
            anew(told, low, high)
    return sorted(told.items())


class PlainKeeper:
    def __init__(self, numbers):
        self.cells = list(numbers)
        self.table = dict(right_entries(numbers, lambda low, high: 0))
        self.past = []

    def behind(self, cells, table):
        changed = [stretch for stretch in sorted(table) if table[stretch] != self.table[stretch]]
        self.cells, self.table = cells, table
        return changed

    def put(self, place, number):
        table = dict(self.table)

        def go(low, high, around):
            if low == high:
                table[low, high] = (number - around,) * 3 + (0,)
                return
            middle = middle_of(low, high)
            around += table[low, high][3]
            if place <= middle:
                go(low, middle, around)
            else:
                go(middle + 1, high, around)
            anew(table, low, high)

        go(0, len(self.cells) - 1, 0)
        self.past.append((self.cells, self.table))
        return self.behind(self.cells[:place] + [number] + self.cells[place + 1:], table)

    def lift(self, first, last, number):
        table = dict(self.table)

        def go(low, high):
            if last < low or high < first:
                return
            if first <= low and high <= last:
                total, least, greatest, waits = table[low, high]
                table[low, high] = (total + number * (high - low + 1), least + number, greatest + number,
                                    waits + number if low < high else 0)
                return
            middle = middle_of(low, high)
            go(low, middle)
            go(middle + 1, high)
            anew(table, low, high)

        go(0, len(self.cells) - 1)
        self.past.append((self.cells, self.table))
        cells = [cell + number if first <= place <= last else cell for place, cell in enumerate(self.cells)]
        return self.behind(cells, table)

    def back(self):
        return self.behind(*self.past.pop())

    def told(self, low, high):
        return plain_told(self.cells[low:high + 1])

    def entries(self):
        return sorted(self.table.items())
