"""The first sum that parts two things of a table (point 21)."""

from lastloser.seeking import first_things
from lastloser.things import put_to


def parting(table, x, y):
    # Whether a sum parts hangs on its thing alone: so the first that does is the first one of its thing.
    losing = table[1]
    with_x = put_to(table[0], x)
    with_y = put_to(table[0], y)
    for counts, thing in first_things(table[0]):
        if (with_x[thing] in losing) != (with_y[thing] in losing):
            return counts
    return None
