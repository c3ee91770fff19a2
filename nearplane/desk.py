"""The desk: planes by names, told and asked about in lines."""

from nearplane.errors import NoLine, NoName, NoPoint, NoText
from nearplane.fits import MOST_COLUMNS
from nearplane.floors import floor
from nearplane.planes import Plane
from nearplane.texts import read, read_figures, read_row, shown, shown_row

LETTERS = "abcdefghijklmnopqrstuvwxyz"
LONGEST_NAME = 8
MOST_FIGURES = 6
NOT_SURE = "open"
DONE = "ok"


def make_plane(planes, things):
    planes[things[0]] = Plane(things[1])
    return DONE


def end_plane(planes, things):
    planes.pop(things[0])
    return DONE


def tell_names(planes, things):
    return " ".join(sorted(planes))


def lay_point(planes, things):
    weight = things[3] if len(things) == 4 else None
    return str(planes[things[0]].lay(things[2], things[1], weight))


def take_point(planes, things):
    planes[things[0]].take(things[1])
    return DONE


def widen_plane(planes, things):
    planes[things[0]].widen(things[1])
    return DONE


def narrow_plane(planes, things):
    planes[things[0]].narrow()
    return DONE


def lead_back(planes, things):
    planes[things[0]].back(things[1])
    return DONE


def tell_mark(planes, things):
    return str(planes[things[0]].mark())


def tell_told(planes, things):
    return shown_row(planes[things[0]].told())


def tell_rests(planes, things):
    return shown_row(planes[things[0]].fit().rests())


def tell_pulls(planes, things):
    return shown_row(planes[things[0]].fit().pulls())


def tell_squares(planes, things):
    return shown(planes[things[0]].squares())


def tell_free(planes, things):
    return ",".join([str(column) for column in planes[things[0]].free()])


def tell_ways(planes, things):
    return " ".join([shown_row(way) for way in planes[things[0]].ways()])


def tell_value(planes, things):
    row = things[1]
    fit = planes[things[0]].fit()
    if len(row) != fit.wide:
        raise NoText("a row has a ratio for each column")
    return shown(fit.value(row)) if fit.sure(row) else NOT_SURE


def tell_word(planes, things):
    plane = planes[things[0]]
    numbers = [point[0] for point in plane.points()]
    if things[1] not in numbers:
        raise NoPoint("no point that is there has this number")
    word = plane.fit().word(numbers.index(things[1]))
    return NOT_SURE if word is None else shown(word)


def tell_floor(planes, things):
    told = floor(planes[things[0]].fit(), things[1])
    return " ".join([shown_row(told[0]), shown_row(told[1]), shown(told[2])])


# What the words behind the first one are, by the first one and how many there are in all.
FORMS = {
    ("plane", 3): ("new name", "wide"), ("end", 2): ("name",), ("names", 1): (),
    ("lay", 4): ("name", "ratio", "row"), ("lay", 5): ("name", "ratio", "row", "ratio"),
    ("take", 3): ("name", "number"), ("widen", 3): ("name", "row"), ("narrow", 2): ("name",),
    ("back", 3): ("name", "number"), ("mark", 2): ("name",),
    ("told", 2): ("name",), ("rests", 2): ("name",), ("pulls", 2): ("name",), ("squares", 2): ("name",),
    ("free", 2): ("name",), ("ways", 2): ("name",),
    ("value", 3): ("name", "row"), ("word", 3): ("name", "number"), ("floor", 3): ("name", "columns"),
}
ANSWERS = {
    "plane": make_plane, "end": end_plane, "names": tell_names, "lay": lay_point, "take": take_point,
    "widen": widen_plane, "narrow": narrow_plane, "back": lead_back, "mark": tell_mark, "told": tell_told,
    "rests": tell_rests, "pulls": tell_pulls, "squares": tell_squares, "free": tell_free, "ways": tell_ways,
    "value": tell_value, "word": tell_word, "floor": tell_floor,
}


class Desk:
    def __init__(self):
        self.planes = {}

    def say(self, line):
        words = words_of(line)
        form = FORMS[(words[0], len(words))]
        # All words are read ahead of the deed, so that what is refused changes nothing.
        things = [thing_of(kind, word, self.planes) for kind, word in zip(form, words[1:])]
        answer = ANSWERS[words[0]]
        return answer(self.planes, things)


def words_of(line):
    if not isinstance(line, str):
        raise NoLine("a line is a text")
    words = line.split(" ")
    if (words[0], len(words)) not in FORMS:
        raise NoLine("no line has this first word and so many words")
    return words


def thing_of(kind, word, planes):
    if kind == "new name":
        return read_name(word)
    if kind == "name":
        return read_name_there(word, planes)
    if kind == "wide":
        return read_wide(word)
    if kind == "number":
        return read_number(word)
    if kind == "ratio":
        return read(word)
    if kind == "columns":
        return read_columns(word)
    return read_filled_row(word)


def read_name(word):
    if word == "" or len(word) > LONGEST_NAME or not all([sign in LETTERS for sign in word]):
        raise NoName("a name is one to eight small letters")
    return word


def read_name_there(word, planes):
    if read_name(word) not in planes:
        raise NoName("no plane stands by this name")
    return word


def read_number(word):
    if len(word) > MOST_FIGURES:
        raise NoText("a number has six figures at most")
    return read_figures(word)


def read_wide(word):
    wide = read_number(word)
    if not 1 <= wide <= MOST_COLUMNS:
        raise NoText("a plane is made here with one to twelve columns")
    return wide


def read_filled_row(word):
    row = read_row(word)
    if row == []:
        raise NoText("a row here has one ratio at least")
    return row


def read_columns(word):
    row = read_filled_row(word)
    if not all([one[1] == 1 for one in row]):
        raise NoText("columns are told by whole numbers")
    return [one[0] for one in row]
