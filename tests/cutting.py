"""Papers for one box, cut in any way, and a plain look at them, to hold others against."""

from tests.samples import THIRTY, plain_told, wrong_numbers

FORTY = 10 ** 40 - 1


def whole(thing):
    return type(thing) is int


def two_boxes(box, way, at):
    """The box up to at in a way, and from the number behind at on."""
    low, high = box
    return ((low, high[:way] + (at,) + high[way + 1:]), (low[:way] + (at + 1,) + low[way + 1:], high))


def cuts_of(box):
    """All (way, at) by which a box can be cut."""
    return [(way, at) for way, (a, b) in enumerate(zip(box[0], box[1])) for at in range(a, b)]


def plain_holds(cells, box, thing):
    """The sentences of a paper gone through from outside in; cells is a dict by places."""
    if type(thing) is not tuple or len(thing) not in (2, 6):
        return False
    claim = thing[1]
    if type(claim) is not tuple or len(claim) != 3 or not all(whole(number) for number in claim):
        return False
    if len(thing) == 2:
        cell = cells[box[0]]
        right = claim[0] == cell and claim[1] <= cell and cell <= claim[2]
        return type(thing[0]) is str and thing[0] == "cell" and box[0] == box[1] and right
    word, claim, way, at, first, second = thing
    if type(word) is not str or word != "cut" or not whole(way) or not whole(at) or (way, at) not in cuts_of(box):
        return False
    boxes = two_boxes(box, way, at)
    if not plain_holds(cells, boxes[0], first) or not plain_holds(cells, boxes[1], second):
        return False
    (total, low, high), (one, one_low, one_high), (other, other_low, other_high) = claim, first[1], second[1]
    return total == one + other and low <= min(one_low, other_low) and high >= max(one_high, other_high)


def claim_anew(first, second):
    """The claim of two papers together."""
    return (first[1][0] + second[1][0], min(first[1][1], second[1][1]), max(first[1][2], second[1][2]))


def slack(claim, chance):
    """The claim with a low that is perhaps less and a high that is perhaps greater."""
    less, more = [chance.choice([0, 0, 1, 5, THIRTY, FORTY]) for turn in range(2)]
    return (claim[0], claim[1] - less, claim[2] + more)


def any_paper(cells, box, chance=None, choose=None, loose=False):
    """A paper that holds: cut by choose (way, at) of those there are, each claim loosened where asked."""
    cuts = cuts_of(box)
    if not cuts:
        claim = plain_told([cells[box[0]]])
        return ("cell", slack(claim, chance) if loose else claim)
    way, at = choose(cuts)
    boxes = two_boxes(box, way, at)
    first, second = [any_paper(cells, part, chance, choose, loose) for part in boxes]
    claim = claim_anew(first, second)
    return ("cut", slack(claim, chance) if loose else claim, way, at, first, second)


def inner_papers(box, paper, path=()):
    """All papers in a paper, itself first, as (path, box, paper); a path tells which part at each cut."""
    yield path, box, paper
    if paper[0] == "cut":
        for part, inner_box in zip((4, 5), two_boxes(box, paper[2], paper[3])):
            yield from inner_papers(inner_box, paper[part], path + (part,))


def with_inner(paper, path, other, anew=False):
    """The paper with another one at a path; anew: all claims around it put together anew."""
    if not path:
        return other
    part = path[0]
    changed = paper[:part] + (with_inner(paper[part], path[1:], other, anew),) + paper[part + 1:]
    if anew:
        changed = changed[:1] + (claim_anew(changed[4], changed[5]),) + changed[2:]
    return changed


def at_index(thing, index, other):
    return thing[:index] + (other,) + thing[index + 1:]


def other_claims(claim):
    """Claims of whole numbers with one of them another one."""
    for index in range(3):
        for more in (1, -1, THIRTY, -FORTY):
            yield at_index(claim, index, claim[index] + more)
    yield (claim[0], claim[2] + 1, claim[1] - 1)


def no_claims(claim):
    """Things that are no claim."""
    for index in range(3):
        for wrong in wrong_numbers():
            yield at_index(claim, index, wrong)
    for wrong in [list(claim), claim + (0,), claim[:2], claim[1:], (), None, True, 0, "", (claim,), {},
                  dict(enumerate(claim))]:
        yield wrong


def other_words():
    return ["", "Cell", "CUT", "cut ", "cells", None, True, 0, (), [], {}, ("cell",), ["cut"], 1]


def no_papers(paper):
    """Things that stand badly where a paper is asked."""
    for wrong in [None, True, False, 0, "", "cell", "cut", (), [], {}, list(paper), paper + (None,), paper + (paper,),
                  paper[:-1], paper[1:], (paper,), [paper], paper[::-1], dict(enumerate(paper)), paper[1], ("cell",),
                  ("cut",), ("cell", ()), ("cell", None), paper * 2]:
        yield wrong
    for word in other_words() + (["cut"] if paper[0] == "cell" else ["cell"]):
        yield at_index(paper, 0, word)


def others_of(box, paper):
    """Whatever comes of a paper by one thing other in itself; perhaps some that hold as well."""
    yield from no_papers(paper)
    for claim in list(other_claims(paper[1])) + list(no_claims(paper[1])):
        yield at_index(paper, 1, claim)
    if paper[0] == "cell":
        yield ("cut", paper[1], 0, box[0][0], paper, paper)
        yield ("cell", paper[1], 0, box[0][0], paper, paper)
        return
    yield ("cell", paper[1])
    for way in [-1, -2, len(box[0]), paper[2] + 1, paper[2] - 1, THIRTY] + wrong_numbers():
        yield at_index(paper, 2, way)
    ends = (box[0][paper[2]] - 1, box[1][paper[2]], -1, paper[3] + 1, paper[3] - 1, THIRTY, -THIRTY)
    for at in list(ends) + wrong_numbers():
        yield at_index(paper, 3, at)
    yield paper[:4] + (paper[5], paper[4])
    yield paper[:4] + (paper[4], paper[4])
    yield paper[:5]
    for wrong in [None, paper[1], (paper[4],), paper, ()]:
        yield at_index(paper, 4, wrong)
        yield at_index(paper, 5, wrong)
