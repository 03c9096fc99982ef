"""What is reached from a sum, and who loses there (points 12 and 13)."""

from lastloser.sums import heap_plays, in_order, longest_by, moves


def led_to(game, counts):
    unlike = {}
    for move in moves(game, counts):
        unlike[move[2]] = True
    return list(unlike)


def walk(game, counts):
    # Each sum that is reached, with what its moves lead to. No recursion: plays may be long.
    laters = {}
    waiting = [counts]
    while waiting != []:
        here = waiting.pop()
        if here not in laters:
            laters[here] = led_to(game, here)
            waiting.extend([later for later in laters[here] if later not in laters])
    return laters


def losing(game, counts, last):
    # A move makes the longest play lesser, so what a sum leads to is known ahead of it.
    laters = walk(game, counts)
    plays = heap_plays(game)
    lost = {}
    for here in sorted(laters, key=lambda reached_sum: longest_by(plays, reached_sum)):
        if laters[here] == []:
            lost[here] = last == "wins"
        else:
            lost[here] = not any([lost[later] for later in laters[here]])
    return lost


def reached(game, counts):
    return in_order(list(walk(game, counts)))


def loses(game, counts, last):
    return losing(game, counts, last)[counts]


def walked(game, counts, last):
    lost = losing(game, counts, last)
    told = {}
    for here in in_order(list(lost)):
        told[here] = lost[here]
    return told
