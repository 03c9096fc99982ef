"""Tables, and how one is looked at and refused (point 14)."""

from lastloser.errors import NoTable
from lastloser.games import is_whole
from lastloser.seeking import first_things


def are_things(value, size):
    if not isinstance(value, tuple):
        return False
    return all([is_whole(thing) and 0 <= thing < size for thing in value])


def are_steps(value):
    if not isinstance(value, tuple) or value == ():
        return False
    if not all([are_things(row, len(value)) for row in value]):
        return False
    return all([len(row) == len(value[0]) for row in value])


def is_rising(things):
    return all([one < other for one, other in zip(things, things[1:])])


def has_form(value):
    if not isinstance(value, tuple) or len(value) != 2 or not are_steps(value[0]):
        return False
    return are_things(value[1], len(value[0])) and is_rising(value[1])


def first_apart(steps):
    # Where h and k go apart, so do k and h: the first, as Python sorts, has the lesser heap ahead.
    heaps = len(steps[0])
    for x, row in enumerate(steps):
        for h in range(heaps):
            for k in range(h + 1, heaps):
                if steps[row[h]][k] != steps[row[k]][h]:
                    return (x, h, k)
    return None


def look_commute(steps):
    apart = first_apart(steps)
    if apart is not None:
        raise NoTable("commute", apart)


def look_reach(steps):
    reached = [thing for counts, thing in first_things(steps)]
    for x in range(len(steps)):
        if x not in reached:
            raise NoTable("reach", (x,))


def look_table(table):
    if not has_form(table):
        raise NoTable("form", ())
    look_commute(table[0])
    look_reach(table[0])
    return True
