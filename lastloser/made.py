"""The least table of those that tell of every sum who wins, or sums that show it has too many things (point 24)."""

from lastloser.least import least
from lastloser.parted import Parted, grown, new_beside
from lastloser.sums import added, sums_of


def twos_of(many):
    told = []
    for i in range(many):
        told.extend([(i, j) for j in range(i + 1, many)])
    return told


def part_by(losers, sums, third, found):
    # In found are, for each two of the sums, the first third one that parts them, or None.
    lost = [losers.lost(added(counts, third)) for counts in sums]
    for two in list(found):
        if found[two] is None and lost[two[0]] != lost[two[1]]:
            found[two] = third


def first_thirds(losers, sums):
    found = {}
    for two in twos_of(len(sums)):
        found[two] = None
    many = 0
    while None in list(found.values()):
        for third in sums_of(len(sums[0]), many):
            part_by(losers, sums, third, found)
        many += 1
    return found


def made(game, last, most):
    parted = Parted(game, last)
    while True:
        steps = grown(parted, len(game), most)
        if len(parted.sums) > most:
            sums = parted.sums[:most + 1]
            return ("open", sums, first_thirds(parted.losers, sums))
        table = (steps, tuple([x for x, counts in enumerate(parted.sums) if parted.losers.lost(counts)]))
        beside = new_beside(game, last, parted, table)
        if beside is None:
            return ("table", least(table))
        parted.beside.append(beside)
