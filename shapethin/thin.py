"""Thinned: a picture whose cells are taken out one by one, as long as there is one that may go."""

from shapethin.pictures import cells_of, picture_of
from shapethin.rounds import ROUND, count_around, turns

# The neighbour on the side from which each of the four passes of a round comes, as (dx, dy).
SIDES = ((0, -1), (-1, 0), (0, 1), (1, 0))


def thinned(picture, ends=True):
    # A dict keeps the order in which its keys came, so what is left of the cells stays in their order.
    kept = dict([(cell, True) for cell in cells_of(picture)])
    taken = []
    taken_before = -1
    while len(taken) > taken_before:
        taken_before = len(taken)
        taken.extend(take_round(kept, ends))
    return (picture_of([(y, x, x) for x, y in kept]), taken)


def take_round(kept, ends):
    taken = []
    for dx, dy in SIDES:
        taken.extend(take_pass(kept, free_cells(kept, dx, dy), ends))
    return taken


def free_cells(kept, dx, dy):
    return [(x, y) for x, y in kept if (x + dx, y + dy) not in kept]


def take_pass(kept, free, ends):
    taken = []
    for cell in free:
        if goes(kept, cell[0], cell[1], ends):
            kept.pop(cell)
            taken.append(cell)
    return taken


def goes(kept, x, y, ends):
    # The rule of may_go, but asked of the cells: to make a picture anew for each cell that is taken is slow.
    number = sum([worth for dx, dy, worth in ROUND if (x + dx, y + dy) in kept])
    return turns(number) == 1 and (not ends or count_around(number) >= 2)
