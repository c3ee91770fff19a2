"""What several tests draw from: things of any kind, and ratios to try rules on."""

from decimal import Decimal
from fractions import Fraction

from nearplane.planes import Plane
from nearplane.ratios import ratio
from nearplane.texts import read, read_row

SIXTY = int("7" * 60)
LARGE = int("9876543210" * 8)

RATIOS = [
    ratio(top, bottom)
    for top in (0, 1, -1, 2, -3, 7, 12, SIXTY, -LARGE)
    for bottom in (1, 2, 3, 10, 12, SIXTY + 1, LARGE + 7)
]


class Touchy:
    """Fails whoever compares, counts, walks or turns it into something else."""

    def refuse(self, *rest):
        raise RuntimeError("touched")

    __eq__ = __lt__ = __gt__ = __le__ = __ge__ = __bool__ = __len__ = __iter__ = refuse
    __getitem__ = __contains__ = __hash__ = __int__ = __index__ = __str__ = __repr__ = refuse
    __add__ = __mul__ = __mod__ = __floordiv__ = __abs__ = __neg__ = refuse


def nested(depth, wrap):
    thing = wrap([])
    for _ in range(depth):
        thing = wrap([thing])
    return thing


def kinds_of_anything():
    """Things that are no whole number, no ratio, no text and no row of one or more."""
    return [
        None, True, False, ..., NotImplemented,
        0.0, 1.0, -1.5, float("nan"), float("inf"), 1j, Fraction(1, 2), Decimal("1"),
        b"", b"1", bytearray(b"1"), range(2), slice(1),
        {}, {1: 2}, {"1": 1}, {(1, 1): (1, 1)}, set(), {1, 2}, frozenset([1, 2]),
        object(), int, tuple, len, lambda: 1, iter([1, 2]), (n for n in (1, 2)),
        ValueError("1"), Touchy(), nested(100, list), nested(100, tuple),
        (), (1,), (1, 1, 1), ((1, 1),), ((1, 1), (1, 1)),
        (None, 1), (1, None), (True, 1), (1, True), (False, True), (False, 1),
        (1.0, 1), (1, 1.0), ("1", "1"), ("1", 1), (1, "1"), ([1], 1), (1, [1]), (1, {}),
        (Touchy(), 1), (1, Touchy()), (Touchy(), Touchy()),
        (2, 4), (-2, 4), (3, 3), (0, 2), (0, 300), (10 ** 299, 10 ** 298), (1, 0), (0, 0), (1, -1), (-1, -2),
    ]


def as_fraction(one):
    return Fraction(one[0], one[1])


def as_ratio(fraction):
    return (fraction.numerator, fraction.denominator)


def fractions_of(row):
    return [as_fraction(one) for one in row]


def ratios_of(fractions):
    return [as_ratio(fraction) for fraction in fractions]


def rows_of(*texts):
    return [read_row(text) for text in texts]


def some_row(seed, long):
    """Ratios of both signs, some of them noughts, the same ones for the same seed."""
    row = []
    state = 7919 * seed + 104729
    for _ in range(long):
        state = (state * 1103515245 + 12345) % 2 ** 31
        top = (state >> 8) % 15 - 7
        row.append(ratio(top, (state >> 16) % 4 + 1) if top % 3 != 0 else ratio(top // 3, 1))
    return row


def some_table(seed, many, wide):
    return [some_row(100 * seed + k, wide) for k in range(many)]


def some_weights(seed, long):
    return [ratio(abs(one[0]) + 1, one[1] + 1) for one in some_row(seed, long)]


def plain_dot(one, other, weights=None):
    """The dot by Python's own fractions, as a fraction."""
    weights = weights if weights is not None else [(1, 1)] * len(one)
    things = zip(fractions_of(one), fractions_of(other), fractions_of(weights), strict=True)
    return sum((left * right * weight for left, right, weight in things), Fraction(0))


def plain_product(one, other, wide):
    """The product of two tables by Python's own fractions, thing by thing."""
    columns = [[row[k] for row in other] for k in range(wide)]
    return [[as_ratio(plain_dot(row, column)) for column in columns] for row in one]


def hanging_table(seed, many, wide, rank):
    """A table with at most so many rows that do not hang on the others."""
    return plain_product(some_table(seed, many, rank), some_table(seed + 1, rank, wide), wide)


def points_of(*texts):
    """Points, each told as ROW WANT or ROW WANT WEIGHT."""
    told = []
    for text in texts:
        words = text.split(" ")
        told.append((read_row(words[0]), read(words[1]), read(words[2]) if len(words) == 3 else (1, 1)))
    return told


def points_by(rows, seed):
    """Points with these rows, and wants and weights the same ones for the same seed."""
    return [(list(row), want, weight) for row, want, weight
            in zip(rows, some_row(seed + 31, len(rows)), some_weights(seed + 57, len(rows)), strict=True)]


def trial_fits():
    """Pairs of points and wide: ordinary, with free columns, few points, alike ones, none, and of no columns."""
    sizes = [(1, 1), (2, 1), (3, 2), (5, 2), (6, 3), (7, 4), (5, 5), (2, 4), (1, 3)]
    told = [(points_by(some_table(seed, many, wide), seed), wide) for seed, (many, wide) in enumerate(sizes)]
    told += [(points_by(hanging_table(seed, 6, 4, rank), seed), 4) for seed, rank in enumerate((0, 1, 2, 3, 2, 3))]
    told += [(points_by([[]] * many, many), 0) for many in (0, 1, 3)]
    told += [([], wide) for wide in (1, 2, 5)]
    rows = some_table(8, 5, 2)
    told.append((points_by([[(0, 1)] + row for row in rows], 3), 3))
    told.append((points_by([row + row[:1] + [(0, 1), row[1], (1, 1)] for row in rows], 4), 6))
    told.append((points_by(rows[:2] + rows[:2] + rows[:1], 5), 2))
    told.append((points_by(rows, 6) + points_by(rows, 6), 2))
    told.append((points_by(unit_rows(4), 7), 4))
    told.append((points_by(some_table(9, 14, 12), 8), 12))
    return told


def laid(points, wide):
    """A plane with these points, laid one behind another."""
    plane = Plane(wide)
    for row, want, weight in points:
        plane.lay(row, want, weight)
    return plane


def unit_rows(many):
    return [[(1, 1) if at == place else (0, 1) for at in range(many)] for place in range(many)]


def columns_of(points, wide):
    return [[point[0][k] for point in points] for k in range(wide)]


def values_by(points, shares):
    """The values at the points by some shares, as ratios."""
    return [as_ratio(plain_dot(point[0], shares)) for point in points]


def plain_squares(points, shares):
    """The weighted sum of squares that some shares leave, by Python's own fractions, as a ratio."""
    left = [as_fraction(want) - plain_dot(row, shares) for row, want, _ in points]
    return as_ratio(plain_dot(ratios_of(left), ratios_of(left), [weight for _, _, weight in points]))


def label(thing):
    """Names a thing in a failure without touching it."""
    return f"{type(thing).__name__} at {id(thing):x}" if holds_touchy(thing) else repr(thing)[:80]


def holds_touchy(thing):
    if isinstance(thing, (list, tuple)):
        return any(holds_touchy(part) for part in thing)
    return isinstance(thing, Touchy)
