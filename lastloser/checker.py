"""Where a table holds, and whether it is let by (points 17 and 18)."""

from lastloser.errors import TooMany, Wrong
from lastloser.pairs import MOST_PAIRS, first_pairs


def any_losing(things, losing):
    return any([thing in losing for thing in things])


def holds(last, losing, pair):
    if pair[1] == ():
        return (pair[0] in losing) == (last == "wins")
    return (pair[0] in losing) != any_losing(pair[1], losing)


def first_wrong(last, losing, found):
    # Where a table holds hangs on the pair: so the first sum at which it doesn't is the first one of its pair.
    for counts, pair in found:
        if not holds(last, losing, pair):
            return counts
    return None


def let_by(game, last, table):
    found = first_pairs(game, table, MOST_PAIRS + 1)
    wrong = first_wrong(last, table[1], found[:MOST_PAIRS])
    if wrong is not None:
        raise Wrong(wrong)
    if len(found) > MOST_PAIRS:
        raise TooMany()
    return True
