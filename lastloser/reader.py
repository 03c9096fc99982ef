"""Games read from texts, and what is refused (points 9 to 11)."""

from lastloser.errors import TooMany
from lastloser.places import places_of
from lastloser.rowforms import rows_of
from lastloser.rules import heap_name, heap_names, rule_heaps, rule_options, rules_of, sizes_of
from lastloser.sums import in_order
from lastloser.sumtexts import names_of, refuse_again, refuse_unknown, sum_of

MOST_HEAPS = 12
MOST_OPTIONS = 60
MOST_IN_OPTION = 4


def refuse_twice(rows):
    words = {}
    names = {}
    for row in rows:
        if row[0] == "row":
            refuse_again([row[1]], words)
            refuse_again(heap_names(row[1], row[2]), names)
        elif row[0] == "heap":
            refuse_again([row[1]], names)
            for terms in row[2]:
                refuse_again(names_of(terms), {})


def refuse_no_name(rows):
    rules = rules_of(rows)
    words = sizes_of(rules)
    told = places_of([heap_name(rule[0], number) for rule, number in rule_heaps(rules)])
    for row in rows:
        if row[0] == "take" and row[3] is not None:
            refuse_unknown([row[3]], words)
        elif row[0] == "heap":
            for terms in row[2]:
                refuse_unknown(names_of(terms), told)
            # Only now: a heap's own name is none that is told ahead of its row.
            told[row[1]] = len(told)


def told_heaps(rows):
    rules = rules_of(rows)
    sizes = sizes_of(rules)
    heaps = [(heap_name(rule[0], number), rule_options(rule, number, sizes)) for rule, number in rule_heaps(rules)]
    heaps.extend([(row[1], row[2]) for row in rows if row[0] == "heap"])
    return heaps


def unlike_options(options, places):
    unlike = {}
    for terms in options:
        unlike[sum_of(terms, places)] = True
    return tuple(in_order(list(unlike)))


def is_too_many(options):
    return len(options) > MOST_OPTIONS or any([sum(option) > MOST_IN_OPTION for option in options])


def game_of(heaps):
    if len(heaps) > MOST_HEAPS:
        raise TooMany()
    places = places_of([heap[0] for heap in heaps])
    game = tuple([(name, unlike_options(options, places)) for name, options in heaps])
    if any([is_too_many(heap[1]) for heap in game]):
        raise TooMany()
    return game


def read(text):
    # The text without signs has no row, though splitting it would tell an empty one.
    if text == "":
        return ()
    rows = rows_of(text)
    refuse_twice(rows)
    refuse_no_name(rows)
    return game_of(told_heaps(rows))
