"""The rows of a text, by their forms (points 9 and 11).

A rule is told as ("row", word, number), a take as ("take", number, ways, word or None), a heap's
row as ("heap", name, list of its SUMs' terms).
"""

from lastloser.errors import NoText
from lastloser.sumtexts import terms_of
from lastloser.words import is_figure, is_name, is_word

WAYS = ("none", "one", "two")


def rule_form(words):
    if len(words) == 4 and is_word(words[1]) and words[2] == "to" and is_figure(words[3]):
        return ("row", words[1], int(words[3]))
    return None


def is_ways(words):
    return words != [] and words == [way for way in WAYS if way in words]


def take_form(words):
    ways = words[2:]
    source = None
    if ways[-2:-1] == ["as"]:
        source = ways[-1]
        ways = ways[:-2]
    if is_ways(ways) and is_figure(words[1]) and (source is None or is_word(source)):
        return ("take", int(words[1]), ways, source)
    return None


def parted(words):
    parts = [[]]
    for word in words:
        if word == "|":
            parts.append([])
        else:
            parts[-1].append(word)
    return parts


def heap_form(words):
    if len(words) < 3 or not is_name(words[1]) or words[2] != ":":
        return None
    if len(words) == 3:
        return ("heap", words[1], [])
    options = [terms_of(part) for part in parted(words[3:])]
    if None in options:
        return None
    return ("heap", words[1], options)


def row_form(words):
    if words[0] == "row":
        return rule_form(words)
    if words[0] == "take":
        return take_form(words)
    if words[0] == "heap":
        return heap_form(words)
    return None


def may_stand(sort, ahead):
    if sort == "row":
        return ahead != "heap"
    if sort == "take":
        return ahead in ("row", "take")
    return True


def rows_of(text):
    rows = []
    ahead = None
    for number, line in enumerate(text.split("\n")):
        row = row_form(line.split(" "))
        if row is None or not may_stand(row[0], ahead):
            raise NoText(number)
        rows.append(row)
        ahead = row[0]
    return rows
