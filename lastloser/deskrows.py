"""The rows that the desk takes (points 30 and 31).

A row is told as (first word, last, texts): last `loses` or `wins`, None where none is to stand; texts those of the
sums, or of the table, that stand behind.
"""

from lastloser.errors import NoRow
from lastloser.rowforms import parted

LASTS = ("loses", "wins")


def has_words(words):
    # An empty word is what a blank too many makes.
    return words != [] and "" not in words


def sum_texts(parts, many):
    if len(parts) != many or not all([has_words(part) for part in parts]):
        return None
    return [" ".join(part) for part in parts]


def table_texts(words):
    # Blanks within are looked at where the table is read.
    text = " ".join(words)
    return [text] if text != "" else None


def texts_of(first, words):
    # None where the words can't stand behind such a first word and its last.
    if first == "table":
        return [] if words == [] else None
    if first == "look":
        return table_texts(words)
    if first == "part":
        return sum_texts(parted(words), 2)
    if first in ("who", "move"):
        return sum_texts([words], 1)
    return None


def asked(row):
    if not isinstance(row, str) or "\n" in row:
        raise NoRow()
    if row in ("beside", "numbers"):
        return (row, None, [])
    words = row.split(" ")
    texts = texts_of(words[0], words[2:])
    if texts is None or words[1:2] == [] or words[1] not in LASTS:
        raise NoRow()
    return (words[0], words[1], texts)
