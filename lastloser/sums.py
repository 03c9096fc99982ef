"""Sums of a game's heaps: put together, in order, moved from (points 6, 7, 8)."""


def nothing(game):
    return (0,) * len(game)


def added(one, other):
    return tuple([here + there for here, there in zip(one, other)])


def order_key(counts):
    # Of sums of as many heaps the one with more of an early heap is ahead: hence the signs.
    return (sum(counts), [-many for many in counts])


def in_order(sums):
    return sorted(sums, key=order_key)


def one_less(counts, heap):
    return counts[:heap] + (counts[heap] - 1,) + counts[heap + 1:]


def moves(game, counts):
    told = []
    for h, heap in enumerate(game):
        if counts[h] > 0:
            rest = one_less(counts, h)
            told.extend([(h, k, added(rest, option)) for k, option in enumerate(heap[1])])
    return told


def heap_plays(game):
    plays = []
    for heap in game:
        # Options have heaps of lesser numbers alone, and the plays of these are known by now.
        plays.append(max([1 + longest_by(plays, option) for option in heap[1]], default=0))
    return plays


def longest_by(plays, counts):
    return sum([many * play for many, play in zip(counts, plays)])


def longest(game, counts):
    return longest_by(heap_plays(game), counts)


def sums_of(heaps, many):
    # All sums of so many heaps in all, in order.
    if heaps == 0:
        return [()] if many == 0 else []
    told = []
    for first in range(many, -1, -1):
        told.extend([(first,) + rest for rest in sums_of(heaps - 1, many - first)])
    return told
