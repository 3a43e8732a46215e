"""Texts of pictures, as in `-2: 0..3 5; 7: -1`, and of whole numbers."""

from shapethin.errors import NoText
from shapethin.pictures import picture_of

FIGURES = "0123456789"
MOST_FIGURES = 60
WITHOUT_CELLS = "nothing"


def show(picture):
    if picture == ():
        return WITHOUT_CELLS
    return "; ".join([show_row(y, row) for y, row in picture])


def show_row(y, row):
    stretches = " ".join([show_stretch(a, b) for a, b in row])
    return f"{y}: {stretches}"


def show_stretch(a, b):
    if a == b:
        return f"{a}"
    return f"{a}..{b}"


def read(text):
    if not isinstance(text, str):
        raise NoText("a picture is read from a text alone")
    if text == WITHOUT_CELLS:
        return ()
    picture = picture_of(read_stretches(text))
    # Order, meeting stretches and the like are not looked at one by one: a text that has them otherwise
    # than they are shown is not the text of the picture that was made of it.
    if show(picture) != text:
        raise NoText("the text is not the text of a picture")
    return picture


def read_stretches(text):
    stretches = []
    for head, colon, tail in [part.partition(": ") for part in text.split("; ")]:
        y = read_whole(head)
        stretches.extend([read_stretch(y, part) for part in tail.split(" ")])
    return stretches


def read_stretch(y, text):
    ends = text.split("..")
    return (y, read_whole(ends[0]), read_whole(ends[-1]))


def read_whole(text):
    if not isinstance(text, str) or not writes_whole(text):
        raise NoText("a whole number is written in one to sixty figures, perhaps with a - ahead")
    return int(text)


def writes_whole(text):
    figures = text[1:] if text.startswith("-") else text
    if figures == "" or len(figures) > MOST_FIGURES:
        return False
    # Signs are looked up one by one, as Python's own digits are more than these ten.
    if not all([sign in FIGURES for sign in figures]):
        return False
    # Noughts ahead, and the - of -0, are lost in the number.
    return str(int(text)) == text
