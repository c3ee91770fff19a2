"""Rows: lists of ratios, alike long where they are handed in together."""

from nearplane.ratios import NOUGHT, is_ratio, minus, plus, times


def is_row(thing, long):
    if not isinstance(thing, list) or len(thing) != long:
        return False
    return all([is_ratio(one) for one in thing])


def added(one, other):
    return [plus(first, second) for first, second in zip(one, other)]


def taken(one, other):
    return [minus(first, second) for first, second in zip(one, other)]


def scaled(row, by):
    return [times(thing, by) for thing in row]


def multiplied(one, other):
    return [times(first, second) for first, second in zip(one, other)]


def dot(one, other, weights=None):
    products = multiplied(one, other)
    if weights is not None:
        products = multiplied(products, weights)
    told = NOUGHT
    for product in products:
        told = plus(told, product)
    return told


def mixed(rows, shares, long):
    told = [NOUGHT] * long
    for row, share in zip(rows, shares):
        told = added(told, scaled(row, share))
    return told


def is_still(row):
    return all([thing == NOUGHT for thing in row])
