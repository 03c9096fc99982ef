"""First sums, in the order of point 7, of whatever goes on by a heap more alone (points 18, 21 and 29)."""


def one_more(counts, heap):
    return counts[:heap] + (counts[heap] + 1,) + counts[heap + 1:]


def first_sums(heaps, start, gone, most=None):
    # At most so many (first sum, what is there), in order; all of them where most is None. A first sum with a heap
    # taken away is a first sum, too: one ahead of it, of the same, would with this heap come ahead again. So each is
    # found, first from the one without one of its last heap; and as these and the heaps are gone through in order,
    # they are found in order.
    told = [((0,) * heaps, start)]
    known = {start: True}
    done = 0
    while done < len(told) and (most is None or len(told) < most):
        counts = told[done][0]
        for heap in range(heaps):
            there = gone(told[done][1], heap)
            if there not in known:
                known[there] = True
                told.append((one_more(counts, heap), there))
        done += 1
    return told[:most]


def first_things(steps):
    return first_sums(len(steps[0]), 0, lambda thing, heap: steps[thing][heap], len(steps))
