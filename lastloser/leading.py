"""Tables that lead onto one another (point 23)."""

from lastloser.things import carried


def keeps_steps(steps, others, goes):
    for x, row in enumerate(steps):
        if [goes[later] for later in row] != list(others[goes[x]]):
            return False
    return True


def led(one, other):
    # By the steps there is but one way each thing can go: so it is looked whether this way is right.
    goes = carried(one[0], other[0], 0)
    told = tuple([goes[x] for x in range(len(one[0]))])
    if not keeps_steps(one[0], other[0], told):
        return None
    if any([(x in one[1]) != (y in other[1]) for x, y in enumerate(told)]):
        return None
    return told
