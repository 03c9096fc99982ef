"""Tables as texts, written and read (point 16)."""

from lastloser.errors import NoText
from lastloser.tables import look_table

LOSES = "loses"
WINS = "wins"


def row_text(row, is_losing):
    return " ".join([str(thing) for thing in row] + [LOSES if is_losing else WINS])


def show_table(table):
    return "\n".join([row_text(row, x in table[1]) for x, row in enumerate(table[0])])


def things_by_figures(size):
    # A number is looked up, not read: so it has no nought or sign ahead, and is below the size.
    told = {}
    for thing in range(size):
        told[str(thing)] = thing
    return told


def is_row(words, things, width):
    if len(words) != width or words[-1] not in (LOSES, WINS):
        return False
    return all([word in things for word in words[:-1]])


def row_steps(words, things):
    return tuple([things[word] for word in words[:-1]])


def read_table(text):
    rows = [row.split(" ") for row in text.split("\n")]
    things = things_by_figures(len(rows))
    for number, words in enumerate(rows):
        if not is_row(words, things, len(rows[0])):
            raise NoText(number)
    losing = tuple([x for x, words in enumerate(rows) if words[-1] == LOSES])
    table = (tuple([row_steps(words, things) for words in rows]), losing)
    look_table(table)
    return table
