"""Fits: the shares by which columns come nearest to the points' wants, and what hangs on them."""

from nearplane.errors import NoPoint, NotSure
from nearplane.ratios import NOUGHT, ONE, is_ratio, is_whole, less, minus, over
from nearplane.rows import added, dot, is_row, is_still, mixed, multiplied, scaled, taken
from nearplane.tables import turned
from nearplane.upright import dots, dots_with, lefts, mix_of_left, parted, square

MOST_COLUMNS = 12


def is_wide(thing):
    return is_whole(thing) and 0 <= thing <= MOST_COLUMNS


def are_points(thing, wide):
    return isinstance(thing, list) and all([is_point(point, wide) for point in thing])


def is_point(thing, wide):
    if not isinstance(thing, tuple) or len(thing) != 3:
        return False
    return is_row(thing[0], wide) and is_ratio(thing[1]) and is_weight(thing[2])


def is_weight(thing):
    return is_ratio(thing) and less(NOUGHT, thing)


class Fit:
    def __init__(self, points, wide):
        # Rows are measured by wide, so it is looked at ahead of them.
        if not is_wide(wide) or not are_points(points, wide):
            raise NoPoint("a fit is made of a list of points, each with a row as wide as is told")
        self.wide = wide
        self.columns = turned([point[0] for point in points], wide)
        self.wants = [point[1] for point in points]
        self.weights = [point[2] for point in points]
        self.parts = lefts(self.columns, self.weights)
        self.near = parted(self.wants, self.parts, self.weights)

    def told(self):
        return list(self.near[1])

    def free(self):
        return [k for k, part in enumerate(self.parts) if is_still(part[0])]

    def rests(self):
        return list(self.near[0])

    def squares(self):
        return square(self.near[0], self.weights)

    def ways(self):
        # Nothing is left of a free column, so the mix that makes its left part comes to noughts.
        return [mix_of_left(self.parts[k][1], self.wide) for k in self.free()]

    def sure(self, row):
        return all([dot(row, way) == NOUGHT for way in self.ways()])

    def value(self, row):
        if not self.sure(row):
            raise NotSure("shares that come as near have other values there")
        return dot(row, self.near[1])

    def pulls(self):
        # Left parts are upright on one another, so what each one pulls is told without the others.
        told = [NOUGHT] * len(self.wants)
        for part in self.parts:
            told = added(told, pulls_by(part[0], self.weights))
        return told

    def word(self, k):
        # What is left at a point is what the others leave there, times 1 less its pull: so no other fit is made.
        beside = minus(ONE, self.pulls()[k])
        if beside == NOUGHT:
            return None
        return minus(self.wants[k], over(self.near[0][k], beside))

    def gain(self, column):
        more = self.parts + [parted(column, self.parts, self.weights)]
        rests = parted(self.wants, more, self.weights)[0]
        return minus(self.squares(), square(rests, self.weights))

    def off(self, shares):
        moved = mixed(self.columns, taken(shares, self.near[1]), len(self.wants))
        return square(moved, self.weights)

    def sums(self):
        table = dots(self.columns, self.weights)
        return (table, dots_with(self.wants, self.columns, self.weights), square(self.wants, self.weights))


def pulls_by(left, weights):
    # Wants that are 1 at one point and 0 elsewhere have of the left part its weighted thing there, over its square.
    products = multiplied(multiplied(left, left), weights)
    if is_still(left):
        return products
    return scaled(products, over(ONE, square(left, weights)))
