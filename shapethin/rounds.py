"""Rounds: what lies round a cell of a picture, and whether the cell may go."""

from shapethin.pictures import has_cell

# The eight neighbours of a cell as (dx, dy, worth), in the order of the round.
ROUND = ((0, -1, 1), (-1, -1, 2), (-1, 0, 4), (-1, 1, 8), (0, 1, 16), (1, 1, 32), (1, 0, 64), (1, -1, 128))
STRAIGHT = (1, 4, 16, 64)


def around(picture, x, y):
    return sum([worth for dx, dy, worth in ROUND if has_cell(picture, x + dx, y + dy)])


def turns(number):
    # Gone round twice, so that behind the last neighbour the first one follows again.
    twice = number + 256 * number
    return len([worth for worth in STRAIGHT if number & worth == 0 and twice & (2 * worth + 4 * worth) != 0])


def count_around(number):
    return len([worth for dx, dy, worth in ROUND if number & worth != 0])


def may_go(picture, x, y, ends=True):
    number = around(picture, x, y)
    return turns(number) == 1 and (not ends or count_around(number) >= 2)
