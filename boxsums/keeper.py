"""A keeper of a row: single cells and whole stretches of it change, and each change can be taken back."""

from boxsums.errors import NoBack
from boxsums.halves import cover, stretches
from boxsums.looks import answer, around, cell_entry, entry_anew, raised
from boxsums.tables import told_of


def first_entries(numbers):
    pieces = stretches(len(numbers))
    return dict([((low, high), told_of(numbers[low:high + 1]) + (0,)) for low, high in pieces])


# The shorter ones first: each is put together of halves that are ready by then.
def all_around(side, pieces):
    found = {}
    for piece in pieces:
        for longer in around(side, piece):
            found[longer] = True
    return sorted(found, key=lambda stretch: stretch[1] - stretch[0])


def lifted_entry(entry, stretch, number):
    waits = entry[3] + number if stretch[0] < stretch[1] else 0
    return raised(entry, stretch, number) + (waits,)


class Keeper:
    def __init__(self, numbers):
        self.side = len(numbers)
        self.kept = first_entries(numbers)
        self.deeds = []

    def put(self, place, number):
        return self.carry_out({(place, place): cell_entry(self.kept, self.side, place, number)})

    def lift(self, low, high, number):
        pieces = cover(self.side, low, high)
        return self.carry_out(dict([(piece, lifted_entry(self.kept[piece], piece, number)) for piece in pieces]))

    def carry_out(self, fresh):
        longer = all_around(self.side, fresh)
        ahead = dict([(stretch, self.kept[stretch]) for stretch in list(fresh) + longer])
        self.deeds.append(ahead)
        self.kept.update(fresh)
        for stretch in longer:
            self.kept[stretch] = entry_anew(self.kept, stretch)
        return self.unlike(ahead)

    def back(self):
        if len(self.deeds) == 0:
            raise NoBack("there is no deed to take back")
        ahead = self.deeds.pop()
        changed = self.unlike(ahead)
        self.kept.update(ahead)
        return changed

    def unlike(self, others):
        return sorted([stretch for stretch in others if others[stretch] != self.kept[stretch]])

    def told(self, low, high):
        return answer(self.kept, self.side, low, high)

    def row(self):
        return [self.told(place, place)[0] for place in range(self.side)]

    def entries(self):
        return sorted(self.kept.items())
