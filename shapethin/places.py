"""Places: where a picture has a form, or has one form and nothing of another."""

from shapethin.pictures import less, lies_in, moved, turned_about


def has_form(picture, form, x, y):
    return lies_in(moved(form.cells(), x, y), picture)


def places(picture, inside, outside):
    return less(inside.smaller(picture), met(picture, outside))


def met(picture, form):
    # A form at (x, y) meets the picture where (x, y) is one of its cells less one of the form's:
    # both turned about, that is a cell of the picture and one of the form together.
    return turned_about(form.greater(turned_about(picture)))
