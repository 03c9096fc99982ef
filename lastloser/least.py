"""The least of a table (point 22)."""

from lastloser.numbering import numbered
from lastloser.things import put_to


def losing_beside(table, x):
    # Things are alike just where this is the same of both.
    beside = put_to(table[0], x)
    return tuple([beside[y] in table[1] for y in range(len(table[0]))])


def first_alike(table):
    # For each thing the first one, by number, that is alike: 0 stands for itself.
    known = {}
    return [known.setdefault(losing_beside(table, x), x) for x in range(len(table[0]))]


def least(table):
    steps = table[0]
    alike = first_alike(table)
    return numbered(len(steps[0]), 0, lambda x, heap: alike[steps[x][heap]], lambda x: x in table[1])
