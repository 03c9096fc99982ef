"""The first sums of a table's things (point 21)."""

from lastloser.seeking import first_things


def firsts(table):
    told = [None] * len(table[0])
    for counts, thing in first_things(table[0]):
        told[thing] = counts
    return told
