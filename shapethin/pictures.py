"""Pictures: tuples of pairs (y, row), rising, each y once, no row without cells."""

from shapethin.errors import TooGreat
from shapethin.rows import count_up_to, row_common, row_count, row_has, row_less, row_moved, row_of

MOST_CELLS = 1000


def picture_of(stretches):
    pairs_by_row = []
    for y, a, b in sorted([(y, a, b) for y, a, b in stretches if a <= b]):
        if not pairs_by_row or pairs_by_row[-1][0] != y:
            pairs_by_row.append((y, []))
        pairs_by_row[-1][1].append((a, b))
    return tuple([(y, row_of(pairs)) for y, pairs in pairs_by_row])


def stretches_of(picture):
    stretches = []
    for y, row in picture:
        stretches.extend([(y, a, b) for a, b in row])
    return stretches


def row_at(picture, y):
    begun = count_up_to(picture, y)
    if begun > 0 and picture[begun - 1][0] == y:
        return picture[begun - 1][1]
    return ()


def has_cell(picture, x, y):
    return row_has(row_at(picture, y), x)


def rows_with_cells(rows):
    return tuple([(y, row) for y, row in rows if row != ()])


def join(one, other):
    return picture_of(stretches_of(one) + stretches_of(other))


def common(one, other):
    return rows_with_cells([(y, row_common(row, row_at(other, y))) for y, row in one])


def less(one, other):
    return rows_with_cells([(y, row_less(row, row_at(other, y))) for y, row in one])


def either(one, other):
    return join(less(one, other), less(other, one))


def lies_in(one, other):
    return less(one, other) == ()


def count_cells(picture):
    return sum([row_count(row) for y, row in picture])


def box_of(picture):
    if picture == ():
        return None
    left = min([row[0][0] for y, row in picture])
    right = max([row[-1][1] for y, row in picture])
    return (left, picture[0][0], right, picture[-1][0])


def moved(picture, dx, dy):
    return tuple([(y + dy, row_moved(row, dx)) for y, row in picture])


def turned_about(picture):
    return picture_of([(-y, -b, -a) for y, a, b in stretches_of(picture)])


def mirrored(picture):
    return picture_of([(y, -b, -a) for y, a, b in stretches_of(picture)])


def cells_of(picture):
    # Counted ahead of any walk: a single stretch may have more cells than could ever be listed.
    if count_cells(picture) > MOST_CELLS:
        raise TooGreat("a picture of more than a thousand cells is not told cell by cell")
    cells = []
    for y, a, b in stretches_of(picture):
        cells.extend([(x, y) for x in range(a, b + 1)])
    return cells


def turned(picture):
    return picture_of([(x, -y, -y) for x, y in cells_of(picture)])
