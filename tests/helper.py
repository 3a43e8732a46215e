"""What the tests of pictures share."""

import itertools
import unittest

from shapethin.errors import NoBack, NoForm, NoName, NoRow, NoText, ShapeError, TooGreat, TooMany

FAR = 10 ** 60 - 1  # the greatest number of sixty figures
REFUSALS = [TooGreat, TooMany, NoText, NoForm, NoName, NoRow, NoBack]


def cells(picture):
    return {(x, y) for y, row in picture for a, b in row for x in range(a, b + 1)}


def plain_picture(some):
    """The picture of a set of cells, made cell by cell."""
    rows = []
    for y in sorted({y for x, y in some}):
        row = []
        for x in sorted(x for x, that in some if that == y):
            if row and row[-1][1] == x - 1:
                row[-1] = (row[-1][0], x)
            else:
                row.append((x, x))
        rows.append((y, tuple(row)))
    return tuple(rows)


def all_small_pictures(columns, rows):
    """Every picture with cells in these columns and rows alone, with its cells."""
    floor = [(x, y) for y in rows for x in columns]
    for bits in itertools.product((False, True), repeat=len(floor)):
        some = {cell for cell, is_in in zip(floor, bits) if is_in}
        yield plain_picture(some), some


class PictureCase(unittest.TestCase):
    def assert_picture(self, picture):
        self.assertIs(type(picture), tuple)
        for pair in picture:
            self.assertIs(type(pair), tuple)
            self.assertEqual(len(pair), 2)
            self.assertIs(type(pair[1]), tuple)
            self.assertNotEqual(pair[1], ())
            for stretch in pair[1]:
                self.assertIs(type(stretch), tuple)
                self.assertLessEqual(stretch[0], stretch[1])
            for ahead, behind in zip(pair[1], pair[1][1:]):
                self.assertGreaterEqual(behind[0], ahead[1] + 2)
        for ahead, behind in zip(picture, picture[1:]):
            self.assertLess(ahead[0], behind[0])

    def assert_same_picture(self, picture, expected):
        self.assert_picture(picture)
        self.assertEqual(picture, expected)

    def assert_refused(self, refusal, ask, *handed_in):
        with self.assertRaises(refusal) as caught:
            ask(*handed_in)
        self.assertIsInstance(caught.exception, ShapeError)
        self.assertIsInstance(caught.exception, ValueError)
        self.assertEqual([one for one in REFUSALS if isinstance(caught.exception, one)], [refusal])
