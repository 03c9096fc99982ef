"""The heaps and options that come by rules (point 10).

A rule is (word, number, takes), the takes as lastloser.rowforms tells them; sizes is a dict from
each rule's word to its number.
"""


def rules_of(rows):
    rules = []
    for row in rows:
        if row[0] == "row":
            rules.append((row[1], row[2], []))
        elif row[0] == "take":
            rules[-1][2].append(row)
    return rules


def sizes_of(rules):
    sizes = {}
    for rule in rules:
        sizes[rule[0]] = rule[1]
    return sizes


def heap_name(word, number):
    return f"{word}{number}"


def heap_names(word, size):
    return [heap_name(word, number) for number in range(1, size + 1)]


def rule_heaps(rules):
    heaps = []
    for number in range(1, max([rule[1] for rule in rules], default=0) + 1):
        heaps.extend([(rule, number) for rule in rules if number <= rule[1]])
    return heaps


def by_two(word, left, size):
    pairs = []
    for lesser in range(1, left // 2 + 1):
        if left - lesser <= size:
            pairs.append([(heap_name(word, lesser), 1), (heap_name(word, left - lesser), 1)])
    return pairs


def by_take(take, word, number, sizes):
    # Sizes bound what is there, not names: a heap's row may tell a name above a rule's number.
    ways = take[2]
    source = word if take[3] is None else take[3]
    left = number - take[1]
    options = []
    if "none" in ways and left == 0:
        options.append([])
    if "one" in ways and 1 <= left <= sizes[source]:
        options.append([(heap_name(source, left), 1)])
    if "two" in ways:
        options.extend(by_two(source, left, sizes[source]))
    return options


def rule_options(rule, number, sizes):
    options = []
    for take in rule[2]:
        options.extend(by_take(take, rule[0], number, sizes))
    return options
