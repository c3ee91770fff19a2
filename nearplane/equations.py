"""Equations: tables led to their reduced ones, and what is read off there."""

from nearplane.deeds import done
from nearplane.errors import NoInverse
from nearplane.ratios import NOUGHT, ONE, minus, over
from nearplane.rows import dot, scaled
from nearplane.tables import unit, unit_row


def reduced(table, wide):
    told = [list(row) for row in table]
    deeds = []
    firsts = []
    for column in range(wide):
        place = len(firsts)
        found = row_with_thing(told, place, column)
        if found is None:
            continue
        steps = clearing_deeds(told, place, found, column)
        told = done(told, steps)
        deeds.extend(steps)
        firsts.append(column)
    return (deeds, told, firsts)


def row_with_thing(table, start, column):
    for i in range(start, len(table)):
        if table[i][column] != NOUGHT:
            return i
    return None


def clearing_deeds(table, place, found, column):
    deeds = []
    if found != place:
        deeds.append(("swap", place, found))
    first = table[found][column]
    if first != ONE:
        deeds.append(("scale", place, over(ONE, first)))
    for i, row in enumerate(table):
        # The row that is swapped to found was passed over for its nought in this column: nothing to clear there.
        if i != place and i != found and row[column] != NOUGHT:
            deeds.append(("add", i, place, minus(NOUGHT, row[column])))
    return deeds


def measure(table):
    led = reduced(table, len(table))
    if len(led[2]) < len(table):
        return NOUGHT
    # The deeds end at the unit table, whose measure is 1: taken back one by one, they tell where they began.
    told = ONE
    for deed in led[0]:
        if deed[0] == "swap":
            told = minus(NOUGHT, told)
        elif deed[0] == "scale":
            told = over(told, deed[2])
    return told


def inverse(table):
    led = reduced(table, len(table))
    if len(led[2]) < len(table):
        raise NoInverse("the table's rows hang on one another")
    # Deeds act like a table that is multiplied on from the left: done to the unit table they show it.
    return done(unit(len(table)), led[0])


def answer(table, wants, wide):
    led = reduced(table, wide)
    firsts = led[2]
    # Done to the unit table, the deeds tell each reduced row as a mix of the table's own.
    papers = done(unit(len(table)), led[0])
    reached = [dot(paper, wants) for paper in papers]
    for k in range(len(firsts), len(table)):
        if reached[k] != NOUGHT:
            return ("none", scaled(papers[k], over(ONE, reached[k])))
    shares = placed([NOUGHT] * wide, firsts, reached)
    ways = [way(led[1], firsts, wide, column) for column in range(wide) if column not in firsts]
    return ("is", shares, ways)


def way(table, firsts, wide, free):
    return placed(unit_row(wide, free), firsts, [minus(NOUGHT, row[free]) for row in table])


def placed(row, columns, things):
    # Rows of noughts stand last, so there may be more things than columns: those are left out.
    told = list(row)
    for column, thing in zip(columns, things):
        told[column] = thing
    return told
