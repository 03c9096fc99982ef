"""Some heaps of a game, or of a table, picked (point 27)."""

from lastloser.errors import NoPick
from lastloser.numbering import numbered


def picked_sum(counts, some):
    return tuple([counts[heap] for heap in some])


def is_among(counts, some):
    return sum(picked_sum(counts, some)) == sum(counts)


def picked_heap(heap, some):
    # With none left out but noughts, options stay in order.
    return (heap[0], tuple([picked_sum(option, some) for option in heap[1]]))


def picked(game, some):
    for heap in some:
        if not all([is_among(option, some) for option in game[heap][1]]):
            raise NoPick(heap)
    return tuple([picked_heap(game[heap], some) for heap in some])


def picked_table(table, some):
    return numbered(len(some), 0, lambda x, place: table[0][x][some[place]], lambda x: x in table[1])
