"""Deeds: what is done to the rows of a table, and how it is led back."""

from nearplane.errors import NoDeed
from nearplane.ratios import NOUGHT, ONE, is_ratio, is_whole, minus, over
from nearplane.rows import added, scaled


def done(table, deeds):
    if not are_deeds(deeds, len(table)):
        raise NoDeed("deeds are a list of swaps, scales and adds of rows that are there")
    # Rows are never changed in place, so this copy is all that keeps the handed table apart.
    told = [list(row) for row in table]
    for deed in deeds:
        told = done_once(told, deed)
    return told


def done_once(table, deed):
    told = list(table)
    i = deed[1]
    if deed[0] == "swap":
        told[i] = table[deed[2]]
        told[deed[2]] = table[i]
    elif deed[0] == "scale":
        told[i] = scaled(table[i], deed[2])
    else:
        told[i] = added(table[i], scaled(table[deed[2]], deed[3]))
    return told


def are_deeds(thing, many):
    if not isinstance(thing, list):
        return False
    return all([is_deed(one, many) for one in thing])


def is_deed(thing, many):
    if not isinstance(thing, tuple) or len(thing) == 0:
        return False
    word = thing[0]
    # What is no text may fail when it is compared with one.
    if not isinstance(word, str):
        return False
    if word == "swap":
        return len(thing) == 3 and are_unlike_rows(thing[1], thing[2], many)
    if word == "scale":
        return len(thing) == 3 and is_row_number(thing[1], many) and is_ratio(thing[2]) and thing[2] != NOUGHT
    if word == "add":
        return len(thing) == 4 and are_unlike_rows(thing[1], thing[2], many) and is_ratio(thing[3])
    return False


def is_row_number(thing, many):
    return is_whole(thing) and 0 <= thing < many


def are_unlike_rows(one, other, many):
    return is_row_number(one, many) and is_row_number(other, many) and one != other


def led_back(deeds):
    return [led_back_once(deed) for deed in reversed(deeds)]


def led_back_once(deed):
    if deed[0] == "scale":
        return ("scale", deed[1], over(ONE, deed[2]))
    if deed[0] == "add":
        return ("add", deed[1], deed[2], minus(NOUGHT, deed[3]))
    return deed
