"""The thing of a sum, and things put together (point 15)."""


def gone_by(steps, thing, heap, many):
    # The steps by one heap go round sooner or later; so very many of them need not be walked.
    path = []
    while thing not in path:
        path.append(thing)
        thing = steps[thing][heap]
    if many < len(path):
        return path[many]
    start = path.index(thing)
    return path[start + (many - start) % (len(path) - start)]


def thing_of(table, counts):
    thing = 0
    for heap, many in enumerate(counts):
        thing = gone_by(table[0], thing, heap, many)
    return thing


def put_to(steps, x):
    # From each thing y to x and y put together: where y goes by a heap's step, both do by the same.
    told = {0: x}
    waiting = [0]
    while waiting != []:
        y = waiting.pop()
        for heap, later in enumerate(steps[y]):
            if later not in told:
                told[later] = steps[told[y]][heap]
                waiting.append(later)
    return told


def put(table, x, y):
    return put_to(table[0], x)[y]
