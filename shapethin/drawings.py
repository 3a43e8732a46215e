"""Drawings: pictures as lists of texts, a sign for each cell."""

from shapethin.errors import NoText, TooGreat
from shapethin.pictures import MOST_CELLS, box_of, picture_of, row_at
from shapethin.rows import row_has

CELL_IN = "#"
CELL_OUT = "."


def draw(picture):
    if picture == ():
        return []
    box = box_of(picture)
    # Counted ahead of any walk: the box of two cells may have more rows than could ever be drawn.
    if (box[2] - box[0] + 1) * (box[3] - box[1] + 1) > MOST_CELLS:
        raise TooGreat("a picture with a box of more than a thousand cells is not drawn")
    return [draw_row(row_at(picture, y), box[0], box[2]) for y in range(box[1], box[3] + 1)]


def draw_row(row, first, last):
    return "".join([CELL_IN if row_has(row, x) else CELL_OUT for x in range(first, last + 1)])


def read_drawn(rows, x=0, y=0):
    stretches = []
    for place, text in enumerate(rows):
        stretches.extend(read_drawn_row(text, x, y + place))
    return picture_of(stretches)


def read_drawn_row(text, x, y):
    if text.replace(CELL_IN, "").replace(CELL_OUT, "") != "":
        raise NoText("a drawing has the signs # and . alone")
    stretches = []
    begin = x
    for run in text.split(CELL_OUT):
        if run != "":
            stretches.append((y, begin, begin + len(run) - 1))
        begin += len(run) + 1
    return stretches
