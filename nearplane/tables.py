"""Tables: lists of rows, each as long as is told beside, for there may be no row to tell it."""

from nearplane.ratios import NOUGHT, ONE
from nearplane.rows import mixed


def turned(table, wide):
    return [column_of(table, place) for place in range(wide)]


def column_of(table, place):
    return [row[place] for row in table]


def product(one, other, wide):
    return [mixed(other, row, wide) for row in one]


def unit(many):
    return [unit_row(many, place) for place in range(many)]


def unit_row(long, place):
    return [ONE if at == place else NOUGHT for at in range(long)]
