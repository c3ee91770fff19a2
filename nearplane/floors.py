"""Floors: the nearest shares of those that are not below nought at marked columns."""

from nearplane.equations import answer
from nearplane.errors import NoColumn, NotSure
from nearplane.ratios import NOUGHT, is_whole, less, minus, plus
from nearplane.rows import dot
from nearplane.tables import unit_row


def floor(fit, marked):
    if not are_columns(marked, fit.wide):
        raise NoColumn("marked columns are told as a list of their rising numbers")
    if fit.free():
        raise NotSure("a fit with free columns has no floor")
    sums = fit.sums()
    shares = settled(sums, marked)
    # By other shares than the told ones the squares are greater by just how far off these are.
    return (shares, prices_by(sums, shares), plus(fit.squares(), fit.off(shares)))


def gap(fit, marked):
    return minus(floor(fit, marked)[2], fit.squares())


def are_columns(thing, wide):
    if not isinstance(thing, list) or not all([is_whole(one) and 0 <= one < wide for one in thing]):
        return False
    return all([one < other for one, other in zip(thing, thing[1:])])


def settled(sums, marked):
    # Only the first wrong column is held at nought, or let go again. It is right when those ahead of it are set right
    # once more, for there is just one floor where no column is free: so this comes to an end.
    held = []
    while True:
        shares = shares_by(sums, held)
        wrong = first_wrong(sums, shares, marked)
        if wrong is None:
            return shares
        held = switched(held, wrong)


def switched(held, column):
    if column in held:
        return [one for one in held if one != column]
    return held + [column]


def shares_by(sums, held):
    wide = len(sums[0])
    table = [unit_row(wide, k) if k in held else row for k, row in enumerate(sums[0])]
    wants = [NOUGHT if k in held else want for k, want in enumerate(sums[1])]
    # Without free columns these equations have just one answer.
    return answer(table, wants, wide)[1]


def first_wrong(sums, shares, marked):
    prices = prices_by(sums, shares)
    for column in marked:
        # A held column has the share nought, one that is not held the price nought: so one of them alone can be below.
        if less(shares[column], NOUGHT) or less(prices[column], NOUGHT):
            return column
    return None


def prices_by(sums, shares):
    return [minus(dot(row, shares), want) for row, want in zip(sums[0], sums[1])]
