"""Ratios: tuples (top, bottom) of whole numbers in lowest terms, bottom from 1 on."""

from nearplane.errors import NoRatio

NOUGHT = (0, 1)
ONE = (1, 1)


def is_whole(thing):
    # Python counts its truths among the ints; here they are no numbers.
    return isinstance(thing, int) and not isinstance(thing, bool)


def is_ratio(thing):
    if not isinstance(thing, tuple) or len(thing) != 2:
        return False
    if not is_whole(thing[0]) or not is_whole(thing[1]):
        return False
    return thing[1] >= 1 and greatest_common(abs(thing[0]), thing[1]) == 1


def greatest_common(one, other):
    # With 0 and n it is n, so 0 stands in lowest terms over 1 alone.
    larger = one
    smaller = other
    while smaller != 0:
        rest = larger % smaller
        larger = smaller
        smaller = rest
    return larger


def ratio(top, bottom):
    if bottom == 0:
        raise NoRatio("the bottom of a ratio is not 0")
    common = greatest_common(abs(top), abs(bottom))
    # Parting both by a number below nought turns the bottom's sign to the good.
    if bottom < 0:
        common = -common
    return (top // common, bottom // common)


def plus(one, other):
    return ratio(one[0] * other[1] + other[0] * one[1], one[1] * other[1])


def minus(one, other):
    return ratio(one[0] * other[1] - other[0] * one[1], one[1] * other[1])


def times(one, other):
    return ratio(one[0] * other[0], one[1] * other[1])


def over(one, other):
    # Over nought the bottom comes to 0, which ratio refuses.
    return ratio(one[0] * other[1], one[1] * other[0])


def less(one, other):
    # Bottoms are above nought, so multiplying by them keeps the order.
    return one[0] * other[1] < other[0] * one[1]
