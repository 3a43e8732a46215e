"""Holes: the gaps of a picture that hang together by four neighbours and are walled round by its cells."""

from shapethin.pictures import picture_of, row_at, rows_with_cells, stretches_of
from shapethin.pieces import BY_FOUR, classes_of
from shapethin.rows import row_gaps


def picture_of_gaps(picture):
    return rows_with_cells([(y, row_gaps(row)) for y, row in picture])


def gaps_of(picture):
    return stretches_of(picture_of_gaps(picture))


def is_open(picture, y, a, b):
    # From its first cell to its last one, a row has nothing but its cells and its gaps.
    for row in (row_at(picture, y - 1), row_at(picture, y + 1)):
        if row == () or a < row[0][0] or b > row[-1][1]:
            return True
    return False


def holes(picture):
    classes = classes_of(picture_of_gaps(picture), BY_FOUR)
    return [gaps for gaps in classes if not any([is_open(picture, y, a, b) for y, a, b, place in gaps])]


def filled(picture):
    stretches = stretches_of(picture)
    for hole in holes(picture):
        stretches.extend([(y, a, b) for y, a, b, place in hole])
    return picture_of(stretches)
