"""Papers, looked at row by row, and written of a table that is let by (points 19 and 20).

by_heap is, of the thing of a row, for each heap the list of this thing put together with each option's.
"""

from lastloser.checker import any_losing, let_by
from lastloser.errors import NoPaper
from lastloser.pairs import pairs, put_options

FIRST_ROW = (0, (), True)


def row_holds(last, losing, row):
    # That a losing thing leads to no losing one is looked at in the rows it comes from, by losing_leads_to_none.
    if row[2]:
        return (row[0] in losing) == (last == "wins")
    return row[0] in losing or any_losing(row[1], losing)


def losing_leads_to_none(table, thing, by_heap):
    steps = table[0][thing]
    losing = table[1]
    return not any([step in losing and any_losing(options, losing) for step, options in zip(steps, by_heap)])


def somes_by_row(paper):
    told = {}
    for thing, some, ended in paper:
        told.setdefault((thing, ended), []).append(some)
    return told


def all_among(things, others):
    return all([thing in others for thing in things])


def goes_on(game, steps, row, by_heap, somes):
    for heap, options in enumerate(by_heap):
        leads = [steps[thing][heap] for thing in row[1]] + options
        still = row[2] and game[heap][1] == ()
        rows = somes.get((steps[row[0]][heap], still), [])
        if not any([all_among(others, leads) for others in rows]):
            return False
    return True


def is_right(game, last, table, row, by_heap, somes):
    if not row_holds(last, table[1], row) or not losing_leads_to_none(table, row[0], by_heap):
        return False
    return goes_on(game, table[0], row, by_heap, somes)


def paper_holds(game, last, table, paper):
    if paper[:1] != (FIRST_ROW,):
        raise NoPaper(0)
    by_options = put_options(game, table)
    somes = somes_by_row(paper)
    for number, row in enumerate(paper):
        if not is_right(game, last, table, row, by_options[row[0]], somes):
            raise NoPaper(number)
    return True


def paper_of(game, last, table):
    let_by(game, last, table)
    return tuple([(pair[0], pair[1], pair[1] == ()) for counts, pair in pairs(game, table)])
