"""Games and tables that several tests look at, and plain ways to what is told of them."""

import itertools

from lastloser.reader import read
from lastloser.sums import moves

NIM = read("row a to 3\ntake 1 none one\ntake 2 none one\ntake 3 none one")
STILL = read("heap e :\nheap s : . | 2*e\nheap t : e s | 2*s")
EMPTY = ()
GREAT = 10 ** 30


def all_sums(heaps, most):
    found = [counts for counts in itertools.product(range(most + 1), repeat=heaps) if sum(counts) <= most]
    return sorted(found, key=lambda counts: (sum(counts), tuple(-many for many in counts)))


def made_table(heaps, start, step, loses, turned=False):
    """The table of all that comes from start; turned, its things but 0 are numbered the other way round."""
    found = [start]
    for here in found:
        for heap in range(heaps):
            if step(here, heap) not in found:
                found.append(step(here, heap))
    if turned:
        found = found[:1] + found[:0:-1]
    steps = tuple(tuple(found.index(step(here, heap)) for heap in range(heaps)) for here in found)
    return steps, tuple(x for x, here in enumerate(found) if loses(here))


def nim_table(last, turned=False, numbers=(1, 2, 3)):
    """The heaps' numbers put together by ^, and whether one above 1 is there, which matters to loses alone."""
    def step(here, heap):
        return here[0] ^ numbers[heap], last == "loses" and (here[1] or numbers[heap] > 1)

    def is_losing(here):
        return here[0] == (0 if last == "wins" or here[1] else 1)

    return made_table(len(numbers), (0, False), step, is_losing, turned)


def counted_table(bounds, losing=(), turned=False):
    """For each heap how many of it are there, up to a tail, then round and round a period."""
    def step(here, heap):
        tail, period = bounds[heap]
        many = here[heap] + 1
        return here[:heap] + (many if many < tail + period else tail,) + here[heap + 1:]

    return made_table(len(bounds), (0,) * len(bounds), step, lambda here: here in losing, turned)


def single_moves(tail, period, heaps):
    """A game of one heap without options, e, and heaps of one move each; and a table's steps for it.

    heaps has for each (by, options): options the numbers of e to which it may be moved, by how many e it counts
    by the table. The thing 0 .. n - 1 tells that many e, an even number of moves; n .. 2 * n - 1 an odd one.
    """
    size = tail + period
    names = "abcdfghijk"

    def counted(many):
        return many if many < size else tail + (many - tail) % period

    game = [("e", ())]
    for name, (by, options) in zip(names, heaps):
        game.append((name, tuple((many,) + (0,) * len(heaps) for many in options)))
    steps = []
    for odd in (False, True):
        for many in range(size):
            row = [counted(many + 1) + odd * size]
            row += [counted(many + by) + (not odd) * size for by, options in heaps]
            steps.append(tuple(row))
    return tuple(game), tuple(steps)


def single_losing(steps, last):
    """The losing things that tell of every sum of such a game who wins."""
    half = len(steps) // 2
    return tuple(range(half)) if last == "wins" else tuple(range(half, 2 * half))


EXACTLY_400 = (5, 5, ((0, (3,)), (0, (4,)), (2, (3,)), (0, (2,)), (2, (0,))))
EXACTLY_401 = (2, 8, ((2, (0, 3)), (2, (1,)), (1, (2,)), (0, (4,)), (1, (4,))))


def finer(table, tail, period, counted, turned=False):
    """The table with a counter of one heap beside."""
    def step(here, heap):
        many = here[1] + (heap == counted)
        return table[0][here[0]][heap], many if many < tail + period else tail

    return made_table(len(table[0][0]), (0, 0), step, lambda here: here[0] in table[1], turned)


def plain_thing(table, counts):
    """One step at a time, from the last heap on."""
    thing = 0
    for heap in reversed(range(len(counts))):
        for again in range(counts[heap]):
            thing = table[0][thing][heap]
    return thing


def plain_pair(game, table, counts):
    leads = {plain_thing(table, later) for h, k, later in moves(game, counts)}
    return plain_thing(table, counts), tuple(sorted(leads))


def plain_pairs(game, table, most):
    """All pairs of sums of at most so many heaps, with their first sums, by looking at every sum."""
    found = {}
    for counts in all_sums(len(game), most):
        found.setdefault(plain_pair(game, table, counts), counts)
    return [(counts, pair) for pair, counts in found.items()]


def plainly_holds(game, table, counts, last):
    thing, leads = plain_pair(game, table, counts)
    if not moves(game, counts):
        return (thing in table[1]) == (last == "wins")
    return (thing in table[1]) == (not any(lead in table[1] for lead in leads))


LASTS = ("loses", "wins")
# Of 2 * n of c beside 2 * m of b (and a not there) who is to move loses where m is above n, not where m is n: so all
# these sums are of unlike things, and no table tells of every sum who wins, where the last move loses.
ENDLESS = read("heap a : .\nheap b : . | a\nheap c : . | a 2*b | 3*b")
# The least tables of these have 12 and 14 things, where the last move loses.
TWELVE = read("heap a : .\nheap b : . | a\nheap c : b\nheap d : a | b | c | a b")
FOURTEEN = read("heap a : .\nheap b : . | a\nheap c : b\nheap d : . | c")
# Heaps of numbers 1, 2, 4, 8, and eight of number 0: where the last move wins there are more than 400 pairs.
MANY_PAIRS = read("heap a : .\nheap b : . | a\nheap c : . | a | b | a b\n"
                  "heap d : . | a | b | c | a b | a c | b c | a b c\n"
                  "heap e : a\nheap f : b\nheap g : c\nheap h : d\nheap i : a b\nheap j : a c\nheap k : a d\n"
                  "heap l : b c")


def plain_loser(game, last):
    """Tells of a sum whether it loses, straight by point 13."""
    known = {}

    def loses(counts):
        if counts not in known:
            laters = [later for h, k, later in moves(game, counts)]
            known[counts] = not any([loses(later) for later in laters]) if laters else last == "wins"
        return known[counts]

    return loses


def together(one, other):
    return tuple(here + there for here, there in zip(one, other))


def small_games(heaps, most=2, play=4):
    """All games of so many heaps, options of at most so many heaps, no longest play above play."""
    def options_at(heap, plays):
        found = []
        for counts in all_sums(heap, most):
            longest = 1 + sum(many * other for many, other in zip(counts, plays))
            if longest <= play:
                found.append((counts + (0,) * (heaps - heap), longest))
        return found

    def from_heap(heap, game, plays):
        if heap == heaps:
            yield game
            return
        options = options_at(heap, plays)
        for many in range(len(options) + 1):
            for some in itertools.combinations(options, many):
                longest = max([play for option, play in some], default=0)
                named = ("abcd"[heap], tuple(option for option, play in some))
                yield from from_heap(heap + 1, game + (named,), plays + (longest,))

    return from_heap(0, (), ())


def some_games(heaps, each):
    return list(itertools.islice(small_games(heaps), 0, None, each))


GAMES = ([EMPTY] + some_games(1, 1) + some_games(2, 1) + some_games(3, 19) + some_games(4, 4999)
         + [NIM, STILL, TWELVE, FOURTEEN])
