"""Sums as texts (point 11). Terms are a list of (name, how many), as they stand in a SUM."""

from lastloser.errors import NoName, NoText, Twice
from lastloser.places import places_of
from lastloser.words import is_name

DIGITS = "0123456789"
MOST_DIGITS = 31


def is_many(text):
    # The length comes first: Python refuses to read numbers of very many figures.
    if not 1 <= len(text) <= MOST_DIGITS or text[0] == "0":
        return False
    return all([sign in DIGITS for sign in text]) and 2 <= int(text) <= 10 ** 30


def term_of(word):
    parts = word.split("*")
    if not is_name(parts[-1]):
        return None
    if len(parts) == 1:
        return (word, 1)
    if len(parts) == 2 and is_many(parts[0]):
        return (parts[1], int(parts[0]))
    return None


def terms_of(words):
    if words == ["."]:
        return []
    terms = [term_of(word) for word in words]
    if terms == [] or None in terms:
        return None
    return terms


def refuse_again(names, told):
    for name in names:
        if name in told:
            raise Twice(name)
        told[name] = True


def refuse_unknown(names, known):
    for name in names:
        if name not in known:
            raise NoName(name)


def names_of(terms):
    return [term[0] for term in terms]


def sum_of(terms, places):
    counts = [0] * len(places)
    for name, many in terms:
        counts[places[name]] += many
    return tuple(counts)


def read_sum(game, text):
    terms = terms_of(text.split(" "))
    if terms is None:
        raise NoText(0)
    refuse_again(names_of(terms), {})
    places = places_of([heap[0] for heap in game])
    refuse_unknown(names_of(terms), places)
    return sum_of(terms, places)


def term_text(name, many):
    return name if many == 1 else f"{many}*{name}"


def show_sum(game, counts):
    words = [term_text(heap[0], many) for heap, many in zip(game, counts) if many > 0]
    return " ".join(words) if words != [] else "."
