"""The numbers of heaps and sums, for where the last move wins, and their table (point 26)."""

from lastloser.numbering import numbered


def least_left_out(taken):
    number = 0
    while number in taken:
        number += 1
    return number


def number_by(by_heap, counts):
    number = 0
    for many, heap_number in zip(counts, by_heap):
        # Of a heap that is there twice both take one another away, so that only odd or even matters.
        if many % 2 == 1:
            number = number ^ heap_number
    return number


def numbers(game):
    told = []
    for heap in game:
        # Options have heaps of lesser numbers alone, and what these come to is known by now.
        told.append(least_left_out([number_by(told, option) for option in heap[1]]))
    return told


def number_of(game, counts):
    return number_by(numbers(game), counts)


def number_table(game):
    by_heap = numbers(game)
    return numbered(len(game), 0, lambda number, heap: number ^ by_heap[heap], lambda number: number == 0)
