"""Measures: how many corners and edges a picture's cells have, and the told number."""

from shapethin.forms import Box
from shapethin.pictures import count_cells


def corners(picture):
    return count_cells(Box(0, 0, 1, 1).greater(picture))


def edges(picture):
    upright = count_cells(Box(0, 0, 1, 0).greater(picture))
    level = count_cells(Box(0, 0, 0, 1).greater(picture))
    return upright + level


def told_number(picture):
    return corners(picture) - edges(picture) + count_cells(picture)
