"""Texts: how ratios and rows of them are written, and read again."""

from nearplane.errors import NoText
from nearplane.ratios import is_ratio

FIGURES = "0123456789"
MOST_FIGURES = 60


def shown(one):
    top = one[0]
    bottom = one[1]
    if bottom == 1:
        return str(top)
    return f"{top}/{bottom}"


def read(text):
    if not isinstance(text, str):
        raise NoText("a ratio is told by a text")
    parts = text.split("/")
    if len(parts) == 1:
        return (read_signed(text), 1)
    if len(parts) > 2:
        raise NoText("a ratio has one stroke at most")
    told = (read_signed(parts[0]), read_figures(parts[1]))
    # A bottom of 1 is left out in writing: so each ratio has one text alone.
    if told[1] == 1 or not is_ratio(told):
        raise NoText("a ratio is written in lowest terms, with a bottom from 2 on")
    return told


def read_signed(text):
    if not text.startswith("-"):
        return read_figures(text)
    size = read_figures(text[1:])
    if size == 0:
        raise NoText("0 has no sign")
    return -size


def read_figures(text):
    if text == "" or len(text) > MOST_FIGURES:
        raise NoText("a number has one to sixty figures")
    # int itself would take blanks, signs and underscores too.
    if not all([sign in FIGURES for sign in text]):
        raise NoText("a number is written in figures alone")
    if text[0] == "0" and text != "0":
        raise NoText("no nought stands ahead of a number")
    return int(text)


def shown_row(row):
    return ",".join([shown(one) for one in row])


def read_row(text):
    if not isinstance(text, str):
        raise NoText("a row is told by a text")
    # Parted, the text of no signs would have one part, and that is no ratio.
    if text == "":
        return []
    return [read(part) for part in text.split(",")]
