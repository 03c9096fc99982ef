"""Two tables beside one another: their joint things, and where both tell alike (point 29)."""

from lastloser.seeking import first_sums


def both_gone(one, other, both, heap):
    return (one[0][both[0]][heap], other[0][both[1]][heap])


def is_unlike(one, other, both):
    return (both[0] in one[1]) != (both[1] in other[1])


def first_boths(one, other):
    return first_sums(len(one[0][0]), (0, 0), lambda both, heap: both_gone(one, other, both, heap))


def joint(one, other):
    return [(counts, both[0], both[1]) for counts, both in first_boths(one, other)]


def unlike(one, other):
    return [told for told in joint(one, other) if is_unlike(one, other, told[1:])]


def settled_by(one, other, boths, heap):
    # boths are those to which sums with at least so many of the heap come. With one more come those to which these
    # step by it, all of them among these; so where they become no fewer, they stay the same for ever.
    many = 0
    while any([is_unlike(one, other, both) for both in boths]):
        later = sorted(set([both_gone(one, other, both, heap) for both in boths]))
        if len(later) == len(boths):
            return None
        boths = later
        many += 1
    return many


def settled(one, other):
    boths = [both for counts, both in first_boths(one, other)]
    return [settled_by(one, other, boths, heap) for heap in range(len(one[0][0]))]
