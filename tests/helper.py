"""What the tests of pictures share."""

import functools
import itertools
import random
import unittest

from shapethin.errors import NoBack, NoForm, NoName, NoRow, NoText, ShapeError, TooGreat, TooMany

FAR = 10 ** 60 - 1  # the greatest number of sixty figures
REFUSALS = [TooGreat, TooMany, NoText, NoForm, NoName, NoRow, NoBack]

# The eight in the order of the round, written out as the document lists them, with their worth.
WORTH = {(0, -1): 1, (-1, -1): 2, (-1, 0): 4, (-1, 1): 8, (0, 1): 16, (1, 1): 32, (1, 0): 64, (1, -1): 128}


def cells(picture):
    return {(x, y) for y, row in picture for a, b in row for x in range(a, b + 1)}


def plain_picture(some):
    """The picture of a set of cells, made cell by cell."""
    rows = []
    for y in sorted({y for x, y in some}):
        row = []
        for x in sorted(x for x, that in some if that == y):
            if row and row[-1][1] == x - 1:
                row[-1] = (row[-1][0], x)
            else:
                row.append((x, x))
        rows.append((y, tuple(row)))
    return tuple(rows)


def all_small_pictures(columns, rows):
    """Every picture with cells in these columns and rows alone, with its cells."""
    floor = [(x, y) for y in rows for x in columns]
    for bits in itertools.product((False, True), repeat=len(floor)):
        some = {cell for cell, is_in in zip(floor, bits) if is_in}
        yield plain_picture(some), some


def patches(wide, high, many, shares=(0.3, 0.5, 0.7, 0.9)):
    """Pictures that have each cell of a block by chance, but the same ones each time."""
    chance = random.Random(27)
    for number in range(many):
        share = shares[number % len(shares)]
        yield plain_picture({(x, y) for x in range(wide) for y in range(high) if chance.random() < share})


def four_of(x, y):
    return [(x, y - 1), (x - 1, y), (x, y + 1), (x + 1, y)]


def eight_of(x, y):
    return four_of(x, y) + [(x - 1, y - 1), (x - 1, y + 1), (x + 1, y + 1), (x + 1, y - 1)]


def cells_within(stretch):
    y, a, b = stretch[:3]
    return {(x, y) for x in range(a, b + 1)}


@functools.lru_cache(maxsize=None)
def cells_touch(one, other, neighbours_of):
    return any(cell in cells_within(other) for x, y in cells_within(one) for cell in neighbours_of(x, y))


def plain_classes(stretches, neighbours_of):
    """The pieces or holes, each walked from its first stretch on just as the document tells it."""
    told = []
    left = sorted(stretches)
    while left:
        listed = [left.pop(0)]
        places = [None]
        for place, this in enumerate(listed):
            for stretch in [stretch for stretch in left if cells_touch(this, stretch, neighbours_of)]:
                left.remove(stretch)
                listed.append(stretch)
                places.append(place)
        told.append([stretch + (place,) for stretch, place in zip(listed, places)])
    return told


def plain_components(some, neighbours_of):
    """The sets into which a set of cells falls, flooded cell by cell; by their least cells, in the order of cells."""
    left = set(some)
    components = []
    for cell in sorted(some, key=lambda cell: (cell[1], cell[0])):
        if cell in left:
            flooded = [cell]
            left.remove(cell)
            for x, y in flooded:
                for beside in neighbours_of(x, y):
                    if beside in left:
                        left.remove(beside)
                        flooded.append(beside)
            components.append(set(flooded))
    return components


def left_out_with_an_end(some):
    """What is left out, flooded cell by cell within a box that leaves a way round: all but the part without end."""
    if not some:
        return []
    columns = range(min(x for x, y in some) - 1, max(x for x, y in some) + 2)
    rows = range(min(y for x, y in some) - 1, max(y for x, y in some) + 2)
    parts = plain_components(set(itertools.product(columns, rows)) - some, four_of)
    return [plain_picture(part) for part in parts if (columns[0], rows[0]) not in part]


def grown(some, form):
    return {(x + dx, y + dy) for x, y in some for dx, dy in form}


def shrunk(some, form):
    first = min(form)
    asked = [(x - first[0], y - first[1]) for x, y in some]
    return {(x, y) for x, y in asked if all((x + dx, y + dy) in some for dx, dy in form)}


def plain_around(some, x, y):
    return sum(worth for (dx, dy), worth in WORTH.items() if (x + dx, y + dy) in some)


def plain_turns(number):
    is_in = [number // worth % 2 == 1 for worth in WORTH.values()]
    counted = 0
    for place, worth in enumerate(WORTH.values()):
        if worth in (1, 4, 16, 64) and not is_in[place]:
            two_next = [is_in[(place + 1) % 8], is_in[(place + 2) % 8]]
            counted += 0 if two_next == [False, False] else 1
    return counted


def widened(told, by, dx=0, dy=0):
    """Pieces or holes as they are told where each cell is as many cells beside one another, all moved."""
    return [[(y + dy, a * by + dx, b * by + by - 1 + dx, place) for y, a, b, place in one] for one in told]


def widened_picture(picture, by, dx=0, dy=0):
    return tuple((y + dy, tuple((a * by + dx, b * by + by - 1 + dx) for a, b in row)) for y, row in picture)


class PictureCase(unittest.TestCase):
    def assert_picture(self, picture):
        self.assertIs(type(picture), tuple)
        for pair in picture:
            self.assertIs(type(pair), tuple)
            self.assertEqual(len(pair), 2)
            self.assertIs(type(pair[1]), tuple)
            self.assertNotEqual(pair[1], ())
            for stretch in pair[1]:
                self.assertIs(type(stretch), tuple)
                self.assertLessEqual(stretch[0], stretch[1])
            for ahead, behind in zip(pair[1], pair[1][1:]):
                self.assertGreaterEqual(behind[0], ahead[1] + 2)
        for ahead, behind in zip(picture, picture[1:]):
            self.assertLess(ahead[0], behind[0])

    def assert_same_picture(self, picture, expected):
        self.assert_picture(picture)
        self.assertEqual(picture, expected)

    def assert_classes(self, told, expected):
        """Pieces or holes: a list of lists of tuples of four."""
        self.assertIs(type(told), list)
        for one in told:
            self.assertIs(type(one), list)
            for stretch in one:
                self.assertIs(type(stretch), tuple)
        self.assertEqual(told, expected)

    def assert_own_lists(self, ask, picture):
        """What is told is the asker's own, and so are the lists within it."""
        first = ask(picture)
        before = [list(one) for one in first]
        self.assertNotEqual(before, [])
        first[0].append("changed")
        first[-1][0] = "changed"
        first.append("changed")
        second = ask(picture)
        self.assertEqual(second, before)
        second.clear()
        self.assertEqual(ask(picture), before)

    def assert_refused(self, refusal, ask, *handed_in):
        with self.assertRaises(refusal) as caught:
            ask(*handed_in)
        self.assertIsInstance(caught.exception, ShapeError)
        self.assertIsInstance(caught.exception, ValueError)
        self.assertEqual([one for one in REFUSALS if isinstance(caught.exception, one)], [refusal])
