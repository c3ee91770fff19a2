"""Upright parts: what is left of rows when their nearest mix of others is taken away."""

from nearplane.ratios import NOUGHT, over
from nearplane.rows import dot, is_still, mixed, taken
from nearplane.tables import unit_row


def square(row, weights):
    return dot(row, row, weights)


def dots(rows, weights):
    return [dots_with(row, rows, weights) for row in rows]


def dots_with(row, rows, weights):
    return [dot(row, other, weights) for other in rows]


def lefts(rows, weights):
    told = []
    for row in rows:
        told.append(parted(row, told, weights))
    return told


def nearest(rows, row, weights):
    part = parted(row, lefts(rows, weights), weights)
    return (part[1], part[0])


def parted(row, ahead, weights):
    # Left parts are upright on one another, so how much of each is in the row is told without the others.
    amounts = [amount(row, part[0], weights) for part in ahead]
    near = mixed([part[0] for part in ahead], amounts, len(row))
    shares = mixed([mix_of_left(part[1], len(ahead)) for part in ahead], amounts, len(ahead))
    return (taken(row, near), shares)


def amount(row, left, weights):
    if is_still(left):
        return NOUGHT
    return over(dot(row, left, weights), square(left, weights))


def mix_of_left(shares, long):
    # A left part is its own row, the one behind those of its shares, less their mix.
    return taken(unit_row(long, len(shares)), shares + [NOUGHT] * (long - len(shares)))
