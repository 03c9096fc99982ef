"""The desk: a game's text and a row, answered with a text (points 30 and 31)."""

from lastloser.checker import let_by
from lastloser.deskrows import asked
from lastloser.errors import NoRow, Wrong
from lastloser.joints import settled
from lastloser.made import made
from lastloser.numbers import numbers
from lastloser.parting import parting
from lastloser.playing import winning
from lastloser.reader import read
from lastloser.sumtexts import read_sum, show_sum
from lastloser.tabletexts import read_table, show_table
from lastloser.things import thing_of

MOST_THINGS = 8


def by_heaps(game, words):
    return " ".join([heap[0] + " " + word for heap, word in zip(game, words)])


def look_answer(game, last, text):
    table = read_table(text.replace(";", "\n"))
    if len(table[0][0]) != len(game):
        raise NoRow()
    try:
        let_by(game, last, table)
    except Wrong as refusal:
        return "wrong " + show_sum(game, refusal.counts)
    return "right"


def beside_answer(game):
    loses = made(game, "loses", MOST_THINGS)
    wins = made(game, "wins", MOST_THINGS)
    if "open" in (loses[0], wins[0]):
        return "open"
    return by_heaps(game, ["never" if many is None else str(many) for many in settled(loses[1], wins[1])])


def who_answer(table, counts):
    return "loses" if thing_of(table, counts) in table[1] else "wins"


def move_answer(game, table, counts):
    move = winning(game, table, counts)
    if move is None:
        return "none"
    heap = game[move[0]]
    return heap[0] + " to " + show_sum(game, heap[1][move[1]])


def part_answer(game, table, one, other):
    third = parting(table, thing_of(table, one), thing_of(table, other))
    return "alike" if third is None else show_sum(game, third)


def made_answer(game, first, last, sums):
    told = made(game, last, MOST_THINGS)
    if told[0] == "open":
        return "open"
    table = told[1]
    if first == "table":
        return show_table(table).replace("\n", ";")
    if first == "who":
        return who_answer(table, sums[0])
    if first == "move":
        return move_answer(game, table, sums[0])
    return part_answer(game, table, sums[0], sums[1])


def answered(text, row):
    game = read(text)
    asks = asked(row)
    if asks[0] == "numbers":
        return by_heaps(game, [str(number) for number in numbers(game)])
    if asks[0] == "beside":
        return beside_answer(game)
    if asks[0] == "look":
        return look_answer(game, asks[1], asks[2][0])
    # The sums are read ahead of all else, so that what is amiss with them is refused of games that are open, too.
    return made_answer(game, asks[0], asks[1], [read_sum(game, sum_text) for sum_text in asks[2]])
