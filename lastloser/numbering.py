"""Tables of whatever goes on by a heap more alone, numbered by first sums (points 22, 26 and 27)."""

from lastloser.places import places_of
from lastloser.seeking import first_sums


def row_of(there, heaps, gone, places):
    return tuple([places[gone(there, heap)] for heap in range(heaps)])


def numbered(heaps, start, gone, is_losing):
    things = [there for counts, there in first_sums(heaps, start, gone)]
    places = places_of(things)
    steps = tuple([row_of(there, heaps, gone, places) for there in things])
    return (steps, tuple([x for x, there in enumerate(things) if is_losing(there)]))
