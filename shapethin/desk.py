"""The desk: keeps pictures by names, and answers rows of text that it is told one at a time."""

from shapethin.errors import NoBack, NoForm, NoName, NoRow, NoText
from shapethin.forms import Box, Cross, Shape
from shapethin.holes import filled, holes
from shapethin.pictures import common, count_cells, either, join, less, lies_in
from shapethin.pieces import pieces
from shapethin.texts import read, read_whole, show
from shapethin.thin import thinned

LETTERS = "abcdefghijklmnopqrstuvwxyz"
MOST_LETTERS = 8

# The kinds of what follows each row's first word: names, but for TEXT and FORM.
ROWS = {
    "put": ("NEW", "TEXT"),
    "join": ("NEW", "ONE", "OTHER"),
    "common": ("NEW", "ONE", "OTHER"),
    "less": ("NEW", "ONE", "OTHER"),
    "either": ("NEW", "ONE", "OTHER"),
    "greater": ("NEW", "ONE", "FORM"),
    "smaller": ("NEW", "ONE", "FORM"),
    "opened": ("NEW", "ONE", "FORM"),
    "closed": ("NEW", "ONE", "FORM"),
    "thin": ("NEW", "ONE"),
    "fill": ("NEW", "ONE"),
    "drop": ("ONE",),
    "back": (),
    "show": ("ONE",),
    "count": ("ONE",),
    "pieces": ("ONE",),
    "holes": ("ONE",),
    "same": ("ONE", "OTHER"),
    "within": ("ONE", "OTHER"),
    "names": (),
}


def is_read(kind):
    return kind in ("TEXT", "FORM")


def is_name(word):
    return 1 <= len(word) <= MOST_LETTERS and all([sign in LETTERS for sign in word])


def words_of(row):
    if not isinstance(row, str):
        raise NoRow("a row is a text")
    first = row.partition(" ")[0]
    if first not in ROWS:
        raise NoRow("a row begins with one of the desk's words")
    words = split_row(row, ROWS[first])
    if len(words) != 1 + len(ROWS[first]):
        raise NoRow("the row has too many words or too few")
    for kind, word in zip(ROWS[first], words[1:]):
        if not is_read(kind) and not is_name(word):
            raise NoRow("a name is one to eight small letters")
    return words


def split_row(row, kinds):
    # What is to be read stands last and goes on to the row's end, with all blanks that it has.
    if any([is_read(kind) for kind in kinds]):
        return row.split(" ", len(kinds))
    return row.split(" ")


def read_form(text):
    try:
        return form_written(text)
    except NoText:
        raise NoForm("a number or a picture in the form is none") from None


def form_written(text):
    words = text.split(" ")
    if words[0] == "box" and len(words) == 5:
        numbers = [read_whole(word) for word in words[1:]]
        return Box(numbers[0], numbers[1], numbers[2], numbers[3])
    if words[0] == "cross" and len(words) == 2:
        return Cross(read_whole(words[1]))
    if words[0] == "cells":
        return Shape(read(text.partition(" ")[2]))
    raise NoForm("a form is a box of four numbers, a cross of one, or the cells of a text")


def made_of_two(word, one, other):
    if word == "join":
        return join(one, other)
    if word == "common":
        return common(one, other)
    if word == "less":
        return less(one, other)
    return either(one, other)


def made_by_form(word, picture, form):
    if word == "greater":
        return form.greater(picture)
    if word == "smaller":
        return form.smaller(picture)
    if word == "opened":
        return form.opened(picture)
    return form.closed(picture)


def made(word, things):
    if word == "put":
        return things[0]
    if word == "thin":
        return thinned(things[0])[0]
    if word == "fill":
        return filled(things[0])
    if ROWS[word][-1] == "FORM":
        return made_by_form(word, things[0], things[1])
    return made_of_two(word, things[0], things[1])


def told(word, things):
    if word == "show":
        return show(things[0])
    if word == "count":
        return str(count_cells(things[0]))
    if word == "pieces":
        return str(len(pieces(things[0])))
    if word == "holes":
        return str(len(holes(things[0])))
    if word == "same":
        return yes_or_no(things[0] == things[1])
    return yes_or_no(lies_in(things[0], things[1]))


def yes_or_no(truth):
    return "yes" if truth else "no"


class Desk:
    def __init__(self):
        self.pictures = {}
        # Of each deed that is not taken back: its name, and what stood by this name ahead of it (None for nothing).
        self.deeds = []

    def say(self, row):
        words = words_of(row)
        word = words[0]
        # The names stand ahead of what is read, so they are refused first.
        things = [self.meant(kind, said) for kind, said in zip(ROWS[word], words[1:])]
        if word == "names":
            return " ".join(sorted(self.pictures))
        if word == "back":
            self.take_back()
        elif word == "drop":
            self.do(words[1], None)
        elif "NEW" in ROWS[word]:
            self.do(words[1], made(word, things[1:]))
        else:
            return told(word, things)
        return "ok"

    def meant(self, kind, said):
        if kind == "NEW":
            return said
        if kind == "TEXT":
            return read(said)
        if kind == "FORM":
            return read_form(said)
        if said not in self.pictures:
            raise NoName("no picture stands by that name")
        return self.pictures[said]

    def do(self, name, picture):
        self.deeds.append((name, self.pictures.get(name)))
        self.set_picture(name, picture)

    def take_back(self):
        if self.deeds == []:
            raise NoBack("there is no deed left to take back")
        deed = self.deeds.pop()
        self.set_picture(deed[0], deed[1])

    def set_picture(self, name, picture):
        if picture is None:
            self.pictures.pop(name)
        else:
            self.pictures[name] = picture
