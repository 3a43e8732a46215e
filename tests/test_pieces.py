import itertools
import unittest

from helper import (FAR, PictureCase, all_small_pictures, cells, cells_touch, cells_within, eight_of, plain_classes,
                    plain_components, plain_picture, widened, widened_picture)
from shapethin.drawings import read_drawn
from shapethin.pictures import count_cells, has_cell, join, moved, picture_of, stretches_of
from shapethin.pieces import piece_at, pieces, picture_of_piece, touched, way_between

WIDE = 10 ** 49
FLOORS = [(range(4), range(3)), (range(-2, 1), range(-1, 3)), (range(6), range(2)), (range(3), (0, 1, 3))]

# A piece that forks and meets again, one inside it, one aslant, and one in a row by itself.
FORKED = read_drawn(["..###....",
                     ".#...#...",
                     "#..#..#..",
                     "#.....#.#",
                     ".#...#..#",
                     "..###....",
                     ".........",
                     "##.##.#.#"])
RING = [(0, 2, 4, None), (1, 1, 1, 0), (1, 5, 5, 0), (2, 0, 0, 1), (2, 6, 6, 2), (3, 0, 0, 3), (3, 6, 6, 4),
        (4, 1, 1, 5), (4, 5, 5, 6), (5, 2, 4, 7)]


def stairs(many):
    return picture_of([(k, k, k) for k in range(many)])


class Pieces(PictureCase):
    def assert_pieces(self, stretches, expected):
        self.assert_classes(pieces(picture_of(stretches)), expected)

    def test_without_cells(self):
        self.assert_pieces([], [])

    def test_of_one_stretch(self):
        self.assert_pieces([(5, -3, 7)], [[(5, -3, 7, None)]])
        self.assert_pieces([(-5, 0, 0)], [[(-5, 0, 0, None)]])

    def test_straight(self):
        self.assert_pieces([(0, 0, 3), (1, 3, 5)], [[(0, 0, 3, None), (1, 3, 5, 0)]])
        self.assert_pieces([(0, 3, 5), (1, 0, 3)], [[(0, 3, 5, None), (1, 0, 3, 0)]])
        self.assert_pieces([(0, 0, 9), (1, 4, 5)], [[(0, 0, 9, None), (1, 4, 5, 0)]])
        self.assert_pieces([(0, 4, 5), (1, 0, 9)], [[(0, 4, 5, None), (1, 0, 9, 0)]])

    def test_aslant_by_one_corner_alone(self):
        self.assert_pieces([(0, 0, 3), (1, 4, 5)], [[(0, 0, 3, None), (1, 4, 5, 0)]])
        self.assert_pieces([(0, 4, 5), (1, 0, 3)], [[(0, 4, 5, None), (1, 0, 3, 0)]])

    def test_missing_one_another_by_one_cell(self):
        self.assert_pieces([(0, 0, 3), (1, 5, 5)], [[(0, 0, 3, None)], [(1, 5, 5, None)]])
        self.assert_pieces([(0, 5, 5), (1, 0, 3)], [[(0, 5, 5, None)], [(1, 0, 3, None)]])
        self.assert_pieces([(0, 0, 3), (0, 5, 5)], [[(0, 0, 3, None)], [(0, 5, 5, None)]])

    def test_rows_that_do_not_follow_one_another(self):
        self.assert_pieces([(0, 0, 3), (2, 0, 3)], [[(0, 0, 3, None)], [(2, 0, 3, None)]])
        self.assert_pieces([(-1, 0, 3), (1, 0, 3), (7, 0, 0)],
                           [[(-1, 0, 3, None)], [(1, 0, 3, None)], [(7, 0, 0, None)]])

    def test_forks_that_meet_again(self):
        self.assert_classes(pieces(FORKED), [
            RING, [(2, 3, 3, None)], [(3, 8, 8, None), (4, 8, 8, 0)],
            [(7, 0, 1, None)], [(7, 3, 4, None)], [(7, 6, 6, None)], [(7, 8, 8, None)]])

    def test_back_up_from_below(self):
        # The second arm's top is reached from below, late, though it stands first in the order of stretches.
        self.assert_pieces([(0, 0, 0), (1, 0, 0), (2, 0, 4), (1, 4, 4), (0, 4, 4), (1, 2, 2)],
                           [[(0, 0, 0, None), (1, 0, 0, 0), (2, 0, 4, 1), (1, 2, 2, 2), (1, 4, 4, 2), (0, 4, 4, 4)]])

    def test_above_comes_ahead_of_below(self):
        self.assert_pieces([(0, 0, 0), (1, 0, 6), (0, 3, 3), (0, 6, 6), (2, 0, 0), (2, 2, 6)],
                           [[(0, 0, 0, None), (1, 0, 6, 0), (0, 3, 3, 1), (0, 6, 6, 1), (2, 0, 0, 1), (2, 2, 6, 1)]])

    def test_the_order_of_pieces_is_that_of_their_first_stretches(self):
        self.assert_pieces([(0, 9, 9), (1, 0, 0), (2, 1, 5), (0, 4, 4), (1, 8, 8), (1, 6, 6)],
                           [[(0, 4, 4, None)], [(0, 9, 9, None), (1, 8, 8, 0)],
                            [(1, 0, 0, None), (2, 1, 5, 0), (1, 6, 6, 1)]])

    def test_all_small_pictures_against_the_walk_written_out(self):
        for columns, rows in FLOORS:
            for picture, some in all_small_pictures(columns, rows):
                self.assertEqual(pieces(picture), plain_classes(stretches_of(picture), eight_of))

    def test_all_small_pictures_against_flooded_cells(self):
        for columns, rows in FLOORS:
            for picture, some in all_small_pictures(columns, rows):
                flooded = [plain_picture(part) for part in plain_components(some, eight_of)]
                self.assertEqual([picture_of_piece(piece) for piece in pieces(picture)], flooded)

    def test_all_cells_each_once_and_no_two_pieces_neighbours(self):
        for picture, some in [(FORKED, cells(FORKED))] + list(all_small_pictures(range(3), range(3))):
            parts = [cells(picture_of_piece(piece)) for piece in pieces(picture)]
            self.assertEqual(sum(map(len, parts)), len(some))
            self.assertEqual(set().union(*parts), some)
            for one, other in itertools.permutations(parts, 2):
                self.assertFalse(any(cell in other for x, y in one for cell in eight_of(x, y)))

    def test_far_out_with_stretches_of_fifty_figures(self):
        for dx, dy in [(0, 0), (FAR, -FAR), (-FAR, FAR), (10 ** 99, -10 ** 99)]:
            self.assert_classes(pieces(widened_picture(FORKED, WIDE, dx, dy)), widened(pieces(FORKED), WIDE, dx, dy))
            for picture, some in all_small_pictures(range(3), range(3)):
                self.assertEqual(pieces(widened_picture(picture, WIDE, dx, dy)),
                                 widened(pieces(picture), WIDE, dx, dy))

    def test_far_from_one_another(self):
        self.assert_pieces([(-FAR, -FAR, FAR), (FAR, -FAR, FAR), (0, FAR, FAR), (1, -FAR, FAR - 1)],
                           [[(-FAR, -FAR, FAR, None)], [(0, FAR, FAR, None), (1, -FAR, FAR - 1, 0)],
                            [(FAR, -FAR, FAR, None)]])

    def test_ten_thousand_stretches(self):
        self.assert_classes(pieces(stairs(10000)),
                            [[(0, 0, 0, None)] + [(k, k, k, k - 1) for k in range(1, 10000)]])
        comb = [(0, 0, 10 ** 50)] + [(1, 2 * k, 2 * k) for k in range(9999)]
        self.assert_pieces(comb, [[(0, 0, 10 ** 50, None)] + [(1, 2 * k, 2 * k, 0) for k in range(9999)]])
        self.assert_pieces([(0, 3 * k, 3 * k) for k in range(10000)],
                           [[(0, 3 * k, 3 * k, None)] for k in range(10000)])
        self.assert_pieces([(3 * k, 0, 10 ** 50) for k in range(10000)],
                           [[(3 * k, 0, 10 ** 50, None)] for k in range(10000)])

    def test_each_list_is_the_askers_own(self):
        self.assert_own_lists(pieces, FORKED)
        self.assert_own_lists(pieces, ((0, ((0, 0),)),))
        told = pieces(())
        told.append("changed")
        self.assertEqual(pieces(()), [])


class PictureOfPiece(PictureCase):
    def test_told_ones(self):
        self.assert_same_picture(picture_of_piece([(0, 4, 5, None), (1, 0, 3, 0), (0, -2, 1, 1)]),
                                 ((0, ((-2, 1), (4, 5))), (1, ((0, 3),))))
        self.assert_same_picture(picture_of_piece([(FAR, -FAR, FAR, None)]), ((FAR, ((-FAR, FAR),)),))

    def test_of_each_piece(self):
        for picture, some in all_small_pictures(range(4), range(3)):
            for piece in pieces(picture):
                expected = set().union(*[cells_within(stretch) for stretch in piece])
                self.assert_same_picture(picture_of_piece(piece), plain_picture(expected))

    def test_the_pieces_joined_are_the_picture(self):
        for picture in [FORKED, stairs(50), widened_picture(FORKED, WIDE, FAR, -FAR)]:
            whole = ()
            for piece in pieces(picture):
                whole = join(whole, picture_of_piece(piece))
            self.assert_same_picture(whole, picture)

    def test_the_piece_stays(self):
        piece = list(RING)
        told = picture_of_piece(piece)
        self.assertEqual(piece, RING)
        piece.clear()
        self.assert_same_picture(told, picture_of_piece(RING))

    def test_by_name(self):
        self.assert_same_picture(picture_of_piece(piece=pieces(picture=FORKED)[1]), ((2, ((3, 3),)),))


class PieceAt(PictureCase):
    def test_begin_end_and_amid(self):
        picture = ((0, ((0, 4), (7, 8))), (1, ((5, 5),)), (3, ((-2, 0),)))
        for x, y in [(0, 0), (2, 0), (4, 0), (5, 1)]:
            self.assert_same_picture(piece_at(picture, x, y), ((0, ((0, 4),)), (1, ((5, 5),))))
        for x in (7, 8):
            self.assert_same_picture(piece_at(picture, x, 0), ((0, ((7, 8),)),))
        for x in (-2, -1, 0):
            self.assert_same_picture(piece_at(picture, x, 3), ((3, ((-2, 0),)),))

    def test_not_in(self):
        picture = ((0, ((0, 4), (7, 8))), (1, ((5, 5),)), (3, ((-2, 0),)))
        for x, y in [(-1, 0), (5, 0), (6, 0), (9, 0), (4, 1), (6, 1), (0, 2), (0, -1), (-3, 3), (1, 3), (0, 4),
                     (FAR, FAR), (-FAR, 0)]:
            self.assert_same_picture(piece_at(picture, x, y), ())

    def test_without_cells(self):
        self.assert_same_picture(piece_at((), 0, 0), ())
        self.assert_same_picture(piece_at((), -FAR, FAR), ())

    def test_every_cell_of_small_pictures(self):
        for picture, some in all_small_pictures(range(4), range(3)):
            at = {cell: plain_picture(part) for part in plain_components(some, eight_of) for cell in part}
            for x, y in itertools.product(range(-1, 5), range(-1, 4)):
                self.assertEqual(piece_at(picture, x, y), at.get((x, y), ()))

    def test_far_out(self):
        picture = widened_picture(FORKED, WIDE, FAR, -FAR)
        ring = widened_picture(picture_of_piece(RING), WIDE, FAR, -FAR)
        for x, y in [(2 * WIDE, 0), (5 * WIDE - 1, 0), (3 * WIDE, 5), (7 * WIDE - 1, 3), (WIDE // 2, 2)]:
            self.assert_same_picture(piece_at(picture, FAR + x, y - FAR), ring)
        for x, y in [(2 * WIDE - 1, 0), (5 * WIDE, 0), (3 * WIDE, 4)]:
            self.assert_same_picture(piece_at(picture, FAR + x, y - FAR), ())

    def test_by_name(self):
        self.assert_same_picture(piece_at(picture=FORKED, x=8, y=4), ((3, ((8, 8),)), (4, ((8, 8),))))


class Touched(PictureCase):
    def test_none_one_and_several(self):
        dot, ring = ((2, ((3, 3),)),), picture_of_piece(RING)
        self.assert_same_picture(touched(FORKED, ()), ())
        self.assert_same_picture(touched(FORKED, ((1, ((2, 4),)), (6, ((-9, 99),)))), ())
        self.assert_same_picture(touched(FORKED, ((-7, ((0, 9),)), (2, ((3, 3),)))), dot)
        self.assert_same_picture(touched(FORKED, ((5, ((4, 4),)),)), ring)
        self.assert_same_picture(touched(FORKED, ((2, ((1, 6),)),)), join(dot, ring))
        self.assert_same_picture(touched(FORKED, ((7, ((1, 3), (7, 50))),)), ((7, ((0, 1), (3, 4), (8, 8))),))
        self.assert_same_picture(touched(FORKED, FORKED), FORKED)

    def test_a_neighbour_is_not_enough(self):
        self.assert_same_picture(touched(((0, ((0, 3),)),), ((0, ((4, 5),)), (1, ((0, 9),)))), ())

    def test_without_cells(self):
        self.assert_same_picture(touched((), ()), ())
        self.assert_same_picture(touched((), FORKED), ())

    def test_each_two_small_pictures(self):
        others = list(all_small_pictures(range(3), range(-1, 2)))
        for picture, some in all_small_pictures(range(-1, 2), range(3)):
            parts = plain_components(some, eight_of)
            for other, those in others[::7]:
                expected = set().union(*[part for part in parts if part & those])
                self.assertEqual(touched(picture, other), plain_picture(expected))

    def test_far_out(self):
        picture = widened_picture(FORKED, WIDE, -FAR, FAR)
        for some in [FORKED, ((2, ((1, 6),)),), ((7, ((1, 3), (7, 50))),), ((1, ((2, 4),)),)]:
            self.assert_same_picture(touched(picture, widened_picture(some, WIDE, -FAR, FAR)),
                                     widened_picture(touched(FORKED, some), WIDE, -FAR, FAR))
        self.assert_same_picture(touched(picture, ((FAR, ((-2 * FAR, 2 * FAR),)),)),
                                 widened_picture(picture_of_piece(RING), WIDE, -FAR, FAR))

    def test_ten_thousand_stretches(self):
        one = picture_of([(0, 3 * k, 3 * k) for k in range(10000)])
        other = picture_of([(0, 6 * k, 6 * k + 1) for k in range(5000)])
        self.assert_same_picture(touched(one, other), picture_of([(0, 6 * k, 6 * k) for k in range(5000)]))
        self.assert_same_picture(touched(stairs(10000), ((0, ((0, 0),)),)), stairs(10000))

    def test_by_name(self):
        self.assert_same_picture(touched(picture=FORKED, other=((2, ((3, 3),)),)), ((2, ((3, 3),)),))


class WayBetween(PictureCase):
    def assert_way(self, picture, one, other):
        way = way_between(picture, one, other)
        self.assertIs(type(way), list)
        for stretch in way:
            self.assertIs(type(stretch), tuple)
            self.assertIn(stretch, stretches_of(picture))
        self.assertIn(one, cells_within(way[0]))
        self.assertIn(other, cells_within(way[-1]))
        for here, there in zip(way, way[1:]):
            self.assertTrue(cells_touch(here, there, eight_of))
        self.assertEqual(len(way), len(set(way)))
        self.assertEqual(way_between(picture, one, other), way)
        return way

    def test_in_the_same_stretch(self):
        picture = ((0, ((0, 4),)), (1, ((0, 4),)))
        for one, other in itertools.product([(0, 0), (2, 0), (4, 0)], repeat=2):
            self.assertEqual(way_between(picture, one, other), [(0, 0, 4)])

    def test_in_touching_stretches(self):
        picture = ((0, ((0, 3),)), (1, ((4, 6),)))
        self.assertEqual(way_between(picture, (0, 0), (6, 1)), [(0, 0, 3), (1, 4, 6)])
        self.assertEqual(way_between(picture, (5, 1), (3, 0)), [(1, 4, 6), (0, 0, 3)])

    def test_with_a_fork(self):
        ways = [[(0, 2, 4)] + [(y, x, x) for x, y in arm] + [(5, 2, 4)]
                for arm in ([(1, 1), (0, 2), (0, 3), (1, 4)], [(5, 1), (6, 2), (6, 3), (5, 4)])]
        self.assertIn(self.assert_way(FORKED, (3, 0), (3, 5)), ways)
        self.assertIn(self.assert_way(FORKED, (4, 5), (2, 0)), [way[::-1] for way in ways])
        self.assert_way(FORKED, (0, 2), (6, 3))
        blind = read_drawn(["#.#.#", "#.#.#", "#####", "..#..", "#.#.#"])
        self.assertEqual(self.assert_way(blind, (4, 0), (2, 4)),
                         [(0, 4, 4), (1, 4, 4), (2, 0, 4), (3, 2, 2), (4, 2, 2)])

    def test_in_unlike_pieces(self):
        self.assertIsNone(way_between(FORKED, (3, 2), (3, 0)))
        self.assertIsNone(way_between(FORKED, (3, 0), (3, 2)))
        self.assertIsNone(way_between(FORKED, (0, 7), (3, 7)))

    def test_not_in(self):
        for cell in [(0, 0), (7, 2), (3, 6), (FAR, FAR), (3, -1), (1, 0), (5, 0)]:
            self.assertIsNone(way_between(FORKED, cell, (3, 0)))
            self.assertIsNone(way_between(FORKED, (3, 0), cell))
            self.assertIsNone(way_between(FORKED, cell, cell))
            self.assertIsNone(way_between((), cell, cell))

    def test_each_two_cells_of_small_pictures(self):
        floor = list(itertools.product(range(3), repeat=2))
        for picture, some in all_small_pictures(range(3), range(3)):
            piece_of = {cell: k for k, part in enumerate(plain_components(some, eight_of)) for cell in part}
            stretch_of = {cell: stretch for stretch in stretches_of(picture) for cell in cells_within(stretch)}
            for one, other in itertools.product(floor, repeat=2):
                if one in some and piece_of[one] == piece_of.get(other):
                    way = self.assert_way(picture, one, other)
                    self.assertEqual(len(way) == 1, stretch_of[one] == stretch_of[other])
                else:
                    self.assertIsNone(way_between(picture, one, other))

    def test_far_out(self):
        picture = widened_picture(FORKED, WIDE, FAR, -FAR)
        for one, other in [((2, 0), (4, 0)), ((0, 2), (1, 4)), ((3, 0), (6, 3)), ((8, 3), (8, 4)), ((8, 3), (6, 3)),
                           ((3, 6), (0, 2))]:
            plain = way_between(FORKED, one, other)
            ends = [(x * WIDE + WIDE // 2 + FAR, y - FAR) for x, y in (one, other)]
            expected = plain and [(y - FAR, a * WIDE + FAR, b * WIDE + WIDE - 1 + FAR) for y, a, b in plain]
            self.assertEqual(way_between(picture, *ends), expected)
        self.assertIsNone(way_between(picture, (2 * WIDE - 1 + FAR, -FAR), (2 * WIDE + FAR, -FAR)))

    def test_ten_thousand_stretches(self):
        way = [(k, k, k) for k in range(10000)]
        self.assertEqual(way_between(stairs(10000), (0, 0), (9999, 9999)), way)
        self.assertEqual(way_between(stairs(10000), (9999, 9999), (0, 0)), way[::-1])

    def test_the_list_is_the_askers_own_and_by_name(self):
        first = way_between(picture=FORKED, one=(3, 0), other=(3, 5))
        before = list(first)
        first.clear()
        self.assertEqual(way_between(FORKED, (3, 0), (3, 5)), before)


class KeptTogether(PictureCase):
    def test_each_tells_of_the_same_pieces(self):
        for picture in [FORKED, moved(FORKED, FAR, -FAR)]:
            for piece in pieces(picture):
                alone = picture_of_piece(piece)
                self.assert_same_picture(touched(picture, alone), alone)
                for y, a, b, place in piece:
                    self.assertTrue(has_cell(alone, a, y))
                    self.assert_same_picture(piece_at(picture, b, y), alone)
                    self.assertIsNotNone(way_between(picture, (a, y), piece[0][1::-1]))
            self.assertEqual(count_cells(picture), sum(b - a + 1 for piece in pieces(picture) for y, a, b, p in piece))


if __name__ == "__main__":
    unittest.main()
