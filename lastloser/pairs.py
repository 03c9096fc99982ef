"""The pairs of a game's sums by a table, with their first sums (point 18)."""

from lastloser.errors import TooMany
from lastloser.seeking import first_sums
from lastloser.things import put_to, thing_of

MOST_PAIRS = 400


def option_things(game, table):
    told = []
    for heap in game:
        told.append([thing_of(table, option) for option in heap[1]])
    return told


def put_each(beside, things):
    return [beside[thing] for thing in things]


def put_options(game, table):
    # For each thing and each heap: the thing put together with that of each of the heap's options.
    things = option_things(game, table)
    told = []
    for x in range(len(table[0])):
        beside = put_to(table[0], x)
        told.append([put_each(beside, options) for options in things])
    return told


def first_pairs(game, table, most=None):
    steps = table[0]
    by_options = put_options(game, table)

    def gone(pair, heap):
        leads = [steps[lead][heap] for lead in pair[1]] + by_options[pair[0]][heap]
        return (steps[pair[0]][heap], tuple(sorted(set(leads))))

    return first_sums(len(game), (0, ()), gone, most)


def pairs(game, table):
    told = first_pairs(game, table, MOST_PAIRS + 1)
    if len(told) > MOST_PAIRS:
        raise TooMany()
    return told
