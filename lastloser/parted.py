"""Sums, each two of them parted, more and more, till they tell a table or are too many (point 24).

Kept are sums, each but the first one of those ahead of it with a heap more, and other sums to put beside them: each
two of the first are parted by one of the others. The sums stand for a table's things: a sum with a heap more steps
to the one that loses beside just the same others; where there is none, it becomes one of the sums itself. Where a
step is seen to be false, as its two sides are parted after all, what parts them is put beside, too; and so there are
more sums, till no step is false.
"""

from lastloser.checker import first_wrong
from lastloser.losers import Losers
from lastloser.pairs import first_pairs
from lastloser.places import places_of
from lastloser.seeking import one_more
from lastloser.sums import added, moves, nothing
from lastloser.tables import first_apart


class Parted:
    def __init__(self, game, last):
        self.losers = Losers(game, last)
        self.sums = [nothing(game)]
        self.beside = [nothing(game)]

    def lost_beside(self, counts):
        return tuple([self.losers.lost(added(counts, other)) for other in self.beside])

    def parts(self, third, one, other):
        return self.losers.lost(added(one, third)) != self.losers.lost(added(other, third))


def stepped(parted, places, counts):
    lost = parted.lost_beside(counts)
    if lost not in places:
        places[lost] = len(parted.sums)
        parted.sums.append(counts)
    return places[lost]


def grown(parted, heaps, most):
    # The steps from all sums; or, where the sums become more than most, from some.
    places = places_of([parted.lost_beside(counts) for counts in parted.sums])
    steps = []
    while len(steps) < len(parted.sums) <= most:
        here = parted.sums[len(steps)]
        steps.append(tuple([stepped(parted, places, one_more(here, heap)) for heap in range(heaps)]))
    return tuple(steps)


def false_step(parted, steps, thing, heaps, third):
    # Steps from a thing by one heap after another; told is what parts the two sides of the last step that is seen to
    # be false: third, and the heaps behind this step. None is told where no step is seen so. One is, if of the sum
    # at the start, with all the heaps, and that at the end, just one loses beside third.
    path = [thing]
    for heap in heaps:
        path.append(steps[path[-1]][heap])
    for place in range(len(heaps) - 1, -1, -1):
        ahead = one_more(parted.sums[path[place]], heaps[place])
        if parted.parts(third, ahead, parted.sums[path[place + 1]]):
            return third
        third = one_more(third, heaps[place])
    return None


def first_false(parted, steps, ways):
    for thing, heaps, third in ways:
        told = false_step(parted, steps, thing, heaps, third)
        if told is not None:
            return told
    return None


def ways_apart(parted, apart):
    # By two heaps, in either order, one comes to two things; as one of the others parts these, one way is false.
    ways = []
    for third in parted.beside:
        ways.append((apart[0], [apart[1], apart[2]], third))
        ways.append((apart[0], [apart[2], apart[1]], third))
    return ways


def heaps_of(counts):
    heaps = []
    for heap, many in enumerate(counts):
        heaps.extend([heap] * many)
    return heaps


def ways_wrong(game, wrong):
    # Where the table doesn't hold at a sum, it tells falsely who wins there, or where a move leads.
    sums = [wrong] + [move[2] for move in moves(game, wrong)]
    return [(0, heaps_of(counts), nothing(game)) for counts in sums]


def new_beside(game, last, parted, table):
    # None where no step is false: then the table tells of every sum who wins.
    apart = first_apart(table[0])
    if apart is not None:
        return first_false(parted, table[0], ways_apart(parted, apart))
    wrong = first_wrong(last, table[1], first_pairs(game, table))
    if wrong is not None:
        return first_false(parted, table[0], ways_wrong(game, wrong))
    return None
