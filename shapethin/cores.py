"""Cores and sieves: what a form leaves of a picture when it is taken again and again."""

from shapethin.errors import NoForm, TooMany
from shapethin.forms import ONE_CELL, Shape, Sum
from shapethin.pictures import count_cells, join, less


def fold(form, many):
    folded = Shape(ONE_CELL)
    for again in range(many):
        folded = Sum(folded, form)
    return folded


def taken_apart(picture, form, most):
    # At most so many cores and, as the last of the list, what is left of the picture behind them.
    layers = []
    left = picture
    while left != () and len(layers) < most:
        smaller = form.smaller(left)
        layers.append(less(left, form.greater(smaller)))
        left = smaller
    return layers + [left]


def sieve(picture, form, most):
    layers = taken_apart(picture, form, most)
    counts = []
    opened = ()
    # Opened k-fold, the picture has all that its layers from the k-th on are made greater to, each by its own fold.
    # So from the last one on each step adds a layer, mostly a small one; to open the picture for each k takes longer.
    for many in range(len(layers) - 1, -1, -1):
        if layers[many] != ():
            opened = join(opened, fold(form, many).greater(layers[many]))
        counts.append(count_cells(opened))
    return list(reversed(counts))


def has_one_cell(form):
    # A lone cell has room for a form just where the form is a lone cell too.
    return form.smaller(ONE_CELL) != ()


def cores(picture, form, most):
    if has_one_cell(form):
        raise NoForm("by a form of one cell a picture never ends")
    layers = taken_apart(picture, form, most)
    if layers[-1] != ():
        raise TooMany("the picture has more cores than that")
    return layers[:-1]


def joined_cores(some, form):
    joined = ()
    # From the last one on: so each step makes greater, at once, all cores that are to be made so once more.
    for core in reversed(some):
        joined = join(core, form.greater(joined))
    return joined
