"""The thing of a sum, and things put together (point 15)."""


def gone_by(steps, thing, heap, many):
    # The steps by one heap go round sooner or later; so very many of them need not be walked.
    path = []
    while thing not in path:
        path.append(thing)
        thing = steps[thing][heap]
    if many < len(path):
        return path[many]
    start = path.index(thing)
    return path[start + (many - start) % (len(path) - start)]


def thing_of(table, counts):
    thing = 0
    for heap, many in enumerate(counts):
        thing = gone_by(table[0], thing, heap, many)
    return thing


def carried(steps, others, start):
    # From each thing to where a sum of it comes from start by the others' steps: where the one goes by a heap's step,
    # the other does by the same. (Which sum is looked at matters only where not all sums of a thing come to one.)
    told = {0: start}
    waiting = [0]
    while waiting != []:
        thing = waiting.pop()
        for heap, later in enumerate(steps[thing]):
            if later not in told:
                told[later] = others[told[thing]][heap]
                waiting.append(later)
    return told


def put_to(steps, x):
    return carried(steps, steps, x)


def put(table, x, y):
    return put_to(table[0], x)[y]
