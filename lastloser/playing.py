"""Winning moves by a table that is let by (point 25)."""

from lastloser.sums import moves
from lastloser.things import thing_of


def winning(game, table, counts):
    for h, k, later in moves(game, counts):
        if thing_of(table, later) in table[1]:
            return (h, k)
    return None
