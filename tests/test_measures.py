import unittest

from helper import FAR, PictureCase, all_small_pictures, cells, eight_of, four_of, plain_components, widened_picture
from shapethin.drawings import read_drawn
from shapethin.holes import holes
from shapethin.measures import corners, edges, told_number
from shapethin.pictures import count_cells, join, moved, picture_of
from shapethin.pieces import pieces

LONG = 10 ** 50
RING = read_drawn(["###", "#.#", "###"])
TWO_RINGS = read_drawn(["#####", "#.#.#", "#####"])
NESTED = read_drawn(["#####", "#...#", "#.#.#", "#...#", "#####"])


def plain_corners(some):
    return {corner for x, y in some for corner in [(x, y), (x + 1, y), (x, y + 1), (x + 1, y + 1)]}


def plain_edges(some):
    """Each edge as the two corners at its ends."""
    sides = [[((x, y), (x + 1, y)), ((x, y), (x, y + 1)), ((x + 1, y), (x + 1, y + 1)), ((x, y + 1), (x + 1, y + 1))]
             for x, y in some]
    return {side for of_cell in sides for side in of_cell}


def plain_number(some):
    """The pieces less the holes, flooded cell by cell on a floor of six by six."""
    floor = {(x, y) for x in range(-1, 5) for y in range(-1, 5)}
    return len(plain_components(some, eight_of)) - len(plain_components(floor - some, four_of)) + 1


class Measures(PictureCase):
    def assert_measures(self, picture, expected):
        told = (corners(picture), edges(picture), told_number(picture))
        for number in told:
            self.assertIs(type(number), int)
        self.assertEqual(told, expected)
        self.assertEqual(told[0] - told[1] + count_cells(picture), told[2])

    def test_without_cells(self):
        self.assert_measures((), (0, 0, 0))

    def test_one_cell(self):
        self.assert_measures(((0, ((0, 0),)),), (4, 4, 1))
        self.assert_measures(((-FAR, ((FAR, FAR),)),), (4, 4, 1))

    def test_cells_that_lie_beside_one_another(self):
        self.assert_measures(((0, ((0, 1),)),), (6, 7, 1))
        self.assert_measures(((0, ((0, 0),)), (1, ((0, 0),))), (6, 7, 1))
        self.assert_measures(((0, ((0, 1),)), (1, ((0, 1),))), (9, 12, 1))

    def test_cells_that_meet_aslant(self):
        self.assert_measures(((0, ((0, 0),)), (1, ((1, 1),))), (7, 8, 1))
        self.assert_measures(((0, ((1, 1),)), (1, ((0, 0),))), (7, 8, 1))
        self.assert_measures(read_drawn([".#.", "#.#", ".#."]), (12, 16, 0))

    def test_cells_that_miss_one_another(self):
        self.assert_measures(((0, ((0, 0), (2, 2))),), (8, 8, 2))
        self.assert_measures(((0, ((0, 0),)), (2, ((0, 0),))), (8, 8, 2))

    def test_rings(self):
        self.assert_measures(RING, (16, 24, 0))
        self.assert_measures(TWO_RINGS, (24, 38, -1))
        self.assert_measures(NESTED, (36, 52, 1))

    def test_all_small_pictures_counted_one_by_one(self):
        for columns, rows in [(range(4), range(3)), (range(3), range(4)), (range(3), (0, 1, 3))]:
            for picture, some in all_small_pictures(columns, rows):
                self.assertEqual(corners(picture), len(plain_corners(some)))
                self.assertEqual(edges(picture), len(plain_edges(some)))
                self.assertEqual(told_number(picture), plain_number(some))

    def test_the_told_number_is_pieces_less_holes(self):
        board = picture_of([(y, x, x) for y in range(20) for x in range(y % 3, 40, 2)])
        for picture in [RING, TWO_RINGS, NESTED, join(NESTED, moved(TWO_RINGS, 5, 5)), board]:
            for by, dx, dy in [(1, 0, 0), (1, FAR, -FAR), (LONG, -FAR, FAR)]:
                wide = widened_picture(picture, by, dx, dy)
                self.assertEqual(told_number(wide), len(pieces(wide)) - len(holes(wide)))
                self.assertEqual(told_number(wide), told_number(picture))

    def test_stretches_of_fifty_figures(self):
        self.assert_measures(((7, ((1, LONG),)),), (2 * LONG + 2, 3 * LONG + 1, 1))
        self.assert_measures(((7, ((1, LONG),)), (8, ((1, LONG),))), (3 * LONG + 3, 5 * LONG + 2, 1))
        self.assert_measures(((7, ((1, LONG),)), (9, ((-LONG, -1),))), (4 * LONG + 4, 6 * LONG + 2, 2))
        frame = ((-FAR, ((1, LONG),)), (1 - FAR, ((1, 1), (LONG, LONG))), (2 - FAR, ((1, LONG),)))
        self.assert_measures(frame, (4 * LONG + 4, 6 * LONG + 6, 0))
        self.assert_measures(((0, ((-FAR, FAR),)),), (4 * FAR + 4, 6 * FAR + 4, 1))

    def test_moved_it_measures_the_same(self):
        for picture in [RING, TWO_RINGS, NESTED]:
            far = moved(picture, -FAR, FAR)
            self.assert_measures(far, (len(plain_corners(cells(picture))), len(plain_edges(cells(picture))),
                                       told_number(picture)))

    def test_ten_thousand_stretches(self):
        loose = picture_of([(0, 2 * k, 2 * k) for k in range(10000)])
        self.assert_measures(loose, (40000, 40000, 10000))
        stairs = picture_of([(k, k, k) for k in range(10000)])
        self.assert_measures(stairs, (30001, 40000, 1))

    def test_by_name(self):
        self.assertEqual((corners(picture=RING), edges(picture=RING), told_number(picture=RING)), (16, 24, 0))


if __name__ == "__main__":
    unittest.main()
