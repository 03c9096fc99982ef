"""Where a table holds, and whether it is let by (points 17 and 18)."""

from lastloser.errors import TooMany, Wrong
from lastloser.pairs import MOST_PAIRS, first_pairs


def any_losing(things, losing):
    return any([thing in losing for thing in things])


def holds(last, losing, pair):
    if pair[1] == ():
        return (pair[0] in losing) == (last == "wins")
    return (pair[0] in losing) != any_losing(pair[1], losing)


def let_by(game, last, table):
    # Where a table holds hangs on the pair: so the first sum at which it doesn't is the first one of its pair.
    found = first_pairs(game, table, MOST_PAIRS + 1)
    for counts, pair in found[:MOST_PAIRS]:
        if not holds(last, table[1], pair):
            raise Wrong(counts)
    if len(found) > MOST_PAIRS:
        raise TooMany()
    return True
