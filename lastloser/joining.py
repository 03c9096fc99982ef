"""Two games put together (point 28)."""

from lastloser.errors import Twice
from lastloser.sums import nothing


def widened(game, ahead, behind):
    told = []
    for name, options in game:
        told.append((name, tuple([ahead + option + behind for option in options])))
    return tuple(told)


def joined(one, other):
    names = [heap[0] for heap in one]
    for heap in other:
        if heap[0] in names:
            raise Twice(heap[0])
    return widened(one, (), nothing(other)) + widened(other, nothing(one), ())
