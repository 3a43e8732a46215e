"""Pieces: the stretches of a picture that hang together by eight neighbours."""

from shapethin.forms import begun_between
from shapethin.pictures import common, picture_of, row_at, stretches_of
from shapethin.rows import count_up_to

# How far beyond its ends a stretch reaches into the rows beside it: to the cells aslant, or not to them.
BY_EIGHT = 1
BY_FOUR = 0


def stretch_at(picture, x, y):
    row = row_at(picture, y)
    begun = count_up_to(row, x)
    if begun > 0 and x <= row[begun - 1][1]:
        return (y,) + row[begun - 1]
    return None


def touching(picture, stretch, reach):
    # Stretches of one row never meet, so only the rows above and below matter.
    first = stretch[1] - reach
    last = stretch[2] + reach
    found = []
    for y in (stretch[0] - 1, stretch[0] + 1):
        found.extend([(y, a, b) for a, b in begun_between(row_at(picture, y), first, last) if b >= first])
    return found


def walk_from(picture, first, reach):
    walk = [first + (None,)]
    walked = {first: True}
    place = 0
    while place < len(walk):
        for stretch in touching(picture, walk[place], reach):
            if stretch not in walked:
                walked[stretch] = True
                walk.append(stretch + (place,))
        place += 1
    return walk


def classes_of(picture, reach):
    classes = []
    walked = {}
    for stretch in stretches_of(picture):
        if stretch not in walked:
            classes.append(walk_from(picture, stretch, reach))
            walked.update([((y, a, b), True) for y, a, b, place in classes[-1]])
    return classes


def pieces(picture):
    return classes_of(picture, BY_EIGHT)


def picture_of_piece(piece):
    return picture_of([(y, a, b) for y, a, b, place in piece])


def piece_at(picture, x, y):
    stretch = stretch_at(picture, x, y)
    if stretch is None:
        return ()
    return picture_of_piece(walk_from(picture, stretch, BY_EIGHT))


def touched(picture, other):
    # All cells that a shared stretch has lie in one stretch of the picture.
    met = dict([(stretch_at(picture, a, y), True) for y, a, b in stretches_of(common(picture, other))])
    kept = []
    for piece in pieces(picture):
        if any([(y, a, b) in met for y, a, b, place in piece]):
            kept.extend(piece)
    return picture_of_piece(kept)


def way_between(picture, one, other):
    first = stretch_at(picture, one[0], one[1])
    last = stretch_at(picture, other[0], other[1])
    if first is None or last is None:
        return None
    # Walked from the last one, so that the places lead on from the first one.
    walk = walk_from(picture, last, BY_EIGHT)
    stretches = [(y, a, b) for y, a, b, place in walk]
    if first not in stretches:
        return None
    way = []
    place = stretches.index(first)
    while place is not None:
        way.append(stretches[place])
        place = walk[place][3]
    return way
