"""Cores and sieves: what a form leaves of a picture when it is taken again and again."""

from shapethin.errors import NoForm, TooMany
from shapethin.forms import ONE_CELL, Shape, Sum
from shapethin.pictures import count_cells, join, less


def fold(form, many):
    folded = Shape(ONE_CELL)
    for again in range(many):
        folded = Sum(folded, form)
    return folded


def sieve(picture, form, most):
    counts = []
    # Smaller by the form many times is smaller by it so many fold: each step goes on from the one ahead.
    left = picture
    for many in range(most + 1):
        counts.append(count_cells(fold(form, many).greater(left)))
        if left == ():
            break
        left = form.smaller(left)
    return counts


def has_one_cell(form):
    # A lone cell has room for a form just where the form is a lone cell too.
    return form.smaller(ONE_CELL) != ()


def cores(picture, form, most):
    if has_one_cell(form):
        raise NoForm("by a form of one cell a picture never ends")
    told = []
    left = picture
    while left != ():
        if len(told) == most:
            raise TooMany("the picture has more cores than that")
        smaller = form.smaller(left)
        told.append(less(left, form.greater(smaller)))
        left = smaller
    return told


def joined_cores(some, form):
    joined = ()
    # From the last one on: so each step makes greater, at once, all cores that are to be made so once more.
    for core in reversed(some):
        joined = join(core, form.greater(joined))
    return joined
