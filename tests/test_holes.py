import itertools
import unittest

from helper import (FAR, PictureCase, all_small_pictures, cells, cells_within, four_of, left_out_with_an_end,
                    plain_classes, plain_picture, widened, widened_picture)
from shapethin.drawings import draw, read_drawn
from shapethin.holes import filled, gaps_of, holes
from shapethin.measures import told_number
from shapethin.pictures import join, less, lies_in, moved, picture_of, stretches_of
from shapethin.pieces import picture_of_piece, pieces

WIDE = 10 ** 49

RING = read_drawn([".###.",
                   "##..#",
                   "#.#.#",
                   "#...#",
                   "#####"])
NESTED = read_drawn(["#######",
                     "#.....#",
                     "#.###.#",
                     "#.#.#.#",
                     "#.###.#",
                     "#.....#",
                     "#######"])


def plain_gaps(some):
    """The gaps, found cell by cell: what is out, and has cells that are in on both sides."""
    out = {(x, y) for y in {y for x, y in some} for x in range(min(some)[0], max(some)[0] + 1)} - some
    gaps = {(x, y) for x, y in out if any((left, y) in some for left in range(min(some)[0], x))
            and any((right, y) in some for right in range(x, max(some)[0] + 1))}
    return stretches_of(plain_picture(gaps))


def plain_holes(some):
    """The holes as the document tells them: classes of gaps, none of them open."""
    if not some:
        return []
    gaps = plain_gaps(some)
    known = some.union(*[cells_within(gap) for gap in gaps])
    is_open = {gap: any(cell not in known for x, y in cells_within(gap) for cell in four_of(x, y)) for gap in gaps}
    return [told for told in plain_classes(gaps, four_of) if not any(is_open[gap[:3]] for gap in told)]


def walled_pictures():
    """A wall round three by three cells, whole or with one cell left out, and all that may lie within it."""
    wall = {(x, y) for x in range(5) for y in range(5) if x in (0, 4) or y in (0, 4)}
    inner = [some for picture, some in all_small_pictures(range(1, 4), range(1, 4))]
    for missing in [None] + sorted(wall):
        for some in inner if missing in (None, (0, 0), (0, 2), (2, 0), (4, 1), (3, 4)) else inner[::13]:
            whole = (wall | some) - {missing}
            yield plain_picture(whole), whole


def small_pictures():
    return itertools.chain(all_small_pictures(range(4), range(3)), all_small_pictures(range(-1, 2), range(-2, 2)),
                           all_small_pictures(range(3), (0, 1, 3)), walled_pictures())


class GapsOf(PictureCase):
    def test_none_one_and_several(self):
        self.assertEqual(gaps_of(()), [])
        self.assertEqual(gaps_of(((0, ((0, 3),)), (1, ((5, 5),)))), [])
        self.assertEqual(gaps_of(((0, ((0, 3), (5, 5))),)), [(0, 4, 4)])
        self.assertEqual(gaps_of(((-2, ((0, 0), (9, 9), (11, 20), (30, 31))), (0, ((5, 6),)), (7, ((-4, -4), (0, 0))))),
                         [(-2, 1, 8), (-2, 10, 10), (-2, 21, 29), (7, -3, -1)])

    def test_kinds(self):
        told = gaps_of(RING)
        self.assertIs(type(told), list)
        for gap in told:
            self.assertIs(type(gap), tuple)
        self.assertEqual(told, [(1, 2, 3), (2, 1, 1), (2, 3, 3), (3, 1, 3)])

    def test_all_small_pictures(self):
        for picture, some in small_pictures():
            self.assertEqual(gaps_of(picture), plain_gaps(some) if some else [])

    def test_far_out(self):
        self.assertEqual(gaps_of(((-FAR, ((-FAR, -FAR), (FAR, FAR))), (FAR, ((-FAR, 0), (2, FAR))))),
                         [(-FAR, 1 - FAR, FAR - 1), (FAR, 1, 1)])

    def test_ten_thousand_stretches(self):
        self.assertEqual(gaps_of(picture_of([(0, 3 * k, 3 * k) for k in range(10000)])),
                         [(0, 3 * k + 1, 3 * k + 2) for k in range(9999)])

    def test_the_list_is_the_askers_own(self):
        told = gaps_of(picture=RING)
        told.clear()
        self.assertEqual(len(gaps_of(RING)), 4)


class Holes(PictureCase):
    def assert_holes(self, drawn, expected):
        self.assert_classes(holes(read_drawn(drawn)), expected)

    def test_without_cells_and_without_gaps(self):
        self.assert_classes(holes(()), [])
        self.assert_holes(["#"], [])
        self.assert_holes(["###", "###", "###"], [])

    def test_rings(self):
        self.assert_holes(["###", "#.#", "###"], [[(1, 1, 1, None)]])
        self.assert_classes(holes(RING), [[(1, 2, 3, None), (2, 3, 3, 0), (3, 1, 3, 1), (2, 1, 1, 2)]])

    def test_open_above_below_and_to_a_side(self):
        self.assert_holes(["#.#", "#.#", "###"], [])
        self.assert_holes(["###", "#.#", "#.#"], [])
        self.assert_holes(["###", "..#", "###"], [])
        self.assert_holes(["###", "#..", "###"], [])
        self.assert_holes(["#####", "#...#", "#....", "#...#", "#####"], [])
        self.assert_holes(["#####", "#...#", "....#", "#...#", "#####"], [])

    def test_open_where_the_row_beside_is_too_short_or_is_none(self):
        self.assert_holes(["##..", "#.#.", "####"], [[(1, 1, 1, None)]])
        self.assert_holes(["##...", "#..#.", "#####"], [])
        self.assert_holes(["..##.", ".#..#", "#####"], [[(1, 2, 3, None)]])
        self.assert_holes(["...##", ".#..#", "#####"], [])
        self.assert_holes(["#.#"], [])
        self.assert_holes(["#.#", "###"], [])
        self.assert_holes(["###", "#.#"], [])
        self.assert_holes(["###", "#.#", "...", "###"], [])
        self.assert_holes(["###", "...", "#.#", "###"], [])

    def test_closed_by_a_corner_alone(self):
        self.assert_holes([".#.", "#.#", ".#."], [[(1, 1, 1, None)]])
        self.assert_holes([".###", "#..#", "####"], [[(1, 1, 2, None)]])
        self.assert_holes(["###.", "#..#", "####"], [[(1, 1, 2, None)]])
        self.assert_holes(["####", "#..#", ".###"], [[(1, 1, 2, None)]])
        self.assert_holes(["####", "#..#", "###."], [[(1, 1, 2, None)]])

    def test_two_that_meet_only_aslant(self):
        self.assert_holes(["####", "#.##", "##.#", "####"], [[(1, 1, 1, None)], [(2, 2, 2, None)]])
        self.assert_holes(["####", "##.#", "#.##", "####"], [[(1, 2, 2, None)], [(2, 1, 1, None)]])
        self.assert_holes([".#.#.", "#.#.#", ".#.#."], [[(1, 1, 1, None)], [(1, 3, 3, None)]])

    def test_one_that_forks(self):
        self.assert_holes(["#######",
                           "#.##.##",
                           "#.....#",
                           "##.#.##",
                           "##...##",
                           "#######"],
                          [[(1, 1, 1, None), (2, 1, 5, 0), (1, 4, 4, 1), (3, 2, 2, 1), (3, 4, 4, 1), (4, 2, 4, 3)]])

    def test_one_within_a_piece_within_a_hole(self):
        self.assert_classes(holes(NESTED), [
            [(1, 1, 5, None), (2, 1, 1, 0), (2, 5, 5, 0), (3, 1, 1, 1), (3, 5, 5, 2), (4, 1, 1, 3), (4, 5, 5, 4),
             (5, 1, 5, 5)],
            [(3, 3, 3, None)]])

    def test_open_only_by_way_of_others(self):
        # The gap of the middle row has rows on both sides that reach beyond it.
        self.assert_holes(["#.#####", "#.....#", "#####.#", "#.....#", "#######"], [])
        self.assert_holes(["#######", "#.....#", "#####.#", "#.....#", "#.#####"], [])
        self.assert_holes(["#######", "#.....#", "#####.#", "#.....#", "#######"],
                          [[(1, 1, 5, None), (2, 5, 5, 0), (3, 1, 5, 1)]])

    def test_the_order_of_holes_is_that_of_their_first_gaps(self):
        self.assert_holes(["...#####",
                           "####...#",
                           "#.##.#.#",
                           "#.###..#",
                           "#..#####",
                           "####...."],
                          [[(1, 4, 6, None), (2, 4, 4, 0), (2, 6, 6, 0), (3, 5, 6, 2)],
                           [(2, 1, 1, None), (3, 1, 1, 0), (4, 1, 2, 1)]])

    def test_all_small_pictures_against_the_walk_written_out(self):
        found = 0
        for picture, some in small_pictures():
            told = holes(picture)
            self.assertEqual(told, plain_holes(some))
            found += len(told)
        self.assertGreater(found, 1000)

    def test_all_small_pictures_against_what_is_left_out(self):
        for picture, some in small_pictures():
            expected = left_out_with_an_end(some)
            self.assertEqual([picture_of_piece(hole) for hole in holes(picture)], expected)

    def test_each_is_walled_round_by_its_cells(self):
        for picture, some in small_pictures():
            for hole in holes(picture):
                inner = cells(picture_of_piece(hole))
                self.assertFalse(inner & some)
                self.assertLessEqual({cell for x, y in inner for cell in four_of(x, y)} - inner, some)

    def test_pieces_less_holes_are_the_told_number(self):
        for picture, some in small_pictures():
            self.assertEqual(len(pieces(picture)) - len(holes(picture)), told_number(picture))

    def test_far_out_with_stretches_of_fifty_figures(self):
        for dx, dy in [(0, 0), (FAR, -FAR), (-FAR, FAR), (10 ** 99, -10 ** 99)]:
            for picture in [RING, NESTED] + [picture for picture, some in walled_pictures()][:512]:
                self.assertEqual(holes(widened_picture(picture, WIDE, dx, dy)), widened(holes(picture), WIDE, dx, dy))
        wide = ((-1, ((-FAR, FAR),)), (0, ((-FAR, -FAR), (FAR, FAR))), (1, ((-FAR, FAR),)))
        self.assert_classes(holes(wide), [[(0, 1 - FAR, FAR - 1, None)]])
        short = ((-1, ((1 - FAR, FAR),)), (0, ((-FAR, -FAR), (FAR, FAR))), (1, ((1 - FAR, FAR - 1),)))
        self.assert_classes(holes(short), [[(0, 1 - FAR, FAR - 1, None)]])
        self.assert_classes(holes(((-1, ((2 - FAR, FAR),)),) + short[1:]), [])
        self.assert_classes(holes(short[:2] + ((1, ((1 - FAR, FAR - 2),)),)), [])

    def test_ten_thousand_stretches(self):
        ladder = [(0, 0, 10 ** 50)] + [(1, 2 * k, 2 * k) for k in range(4999)] + [(2, 0, 9996)]
        self.assert_classes(holes(picture_of(ladder)), [[(1, 2 * k + 1, 2 * k + 1, None)] for k in range(4998)])
        deep = [(0, 0, 2), (4999, 0, 2)] + [(y, x, x) for y in range(1, 4999) for x in (0, 2)]
        self.assert_classes(holes(picture_of(deep)),
                            [[(1, 1, 1, None)] + [(y, 1, 1, y - 2) for y in range(2, 4999)]])
        board = picture_of([(y, x, x) for y in range(141) for x in range(y % 2, 141, 2)])
        self.assertEqual(len(holes(board)), 139 * 139 // 2)

    def test_each_list_is_the_askers_own(self):
        self.assert_own_lists(holes, RING)
        self.assert_own_lists(holes, NESTED)
        told = holes(())
        told.append("changed")
        self.assertEqual(holes(picture=()), [])

    def test_the_picture_of_each_hole(self):
        self.assert_same_picture(picture_of_piece(holes(NESTED)[1]), ((3, ((3, 3),)),))
        for picture, some in walled_pictures():
            for hole in holes(picture):
                before = list(hole)
                inner = set().union(*[cells_within(gap) for gap in hole])
                self.assert_same_picture(picture_of_piece(hole), plain_picture(inner))
                self.assertEqual(hole, before)


class Filled(PictureCase):
    def assert_filled(self, picture):
        told = filled(picture)
        self.assert_picture(told)
        self.assertEqual(holes(told), [])
        self.assertIs(lies_in(picture, told), True)
        self.assertEqual(filled(told), told)
        return told

    def test_told_ones(self):
        self.assert_same_picture(filled(()), ())
        self.assert_same_picture(filled(((0, ((0, 0), (2, 2))),)), ((0, ((0, 0), (2, 2))),))
        self.assertEqual(draw(filled(RING)), [".###.", "#####", "#####", "#####", "#####"])
        self.assertEqual(draw(filled(NESTED)), ["#######"] * 7)
        self.assertEqual(draw(filled(read_drawn([".#..#", "#.##.", ".#..#"]))), [".#..#", "####.", ".#..#"])

    def test_open_gaps_stay(self):
        for drawn in [["#.#", "#.#", "###"], ["###", "..#", "###"], ["#.#####", "#.....#", "#####.#", "#######"]]:
            self.assertEqual(draw(self.assert_filled(read_drawn(drawn))), drawn)
        self.assertEqual(draw(filled(read_drawn(["###..#", "#.#.#.", "###..#"]))), ["###..#", "###.#.", "###..#"])

    def test_all_small_pictures(self):
        for picture, some in small_pictures():
            told = self.assert_filled(picture)
            expected = picture
            for hole in left_out_with_an_end(some):
                expected = join(expected, hole)
            self.assertEqual(told, expected)
            self.assertEqual(less(told, picture), plain_picture(cells(told) - some))

    def test_far_out(self):
        for picture in [RING, NESTED]:
            told = self.assert_filled(widened_picture(picture, WIDE, -FAR, FAR))
            self.assert_same_picture(told, widened_picture(filled(picture), WIDE, -FAR, FAR))
            self.assert_same_picture(filled(moved(picture, FAR, FAR)), moved(filled(picture), FAR, FAR))

    def test_ten_thousand_stretches(self):
        deep = [(0, 0, 2), (4999, 0, 2)] + [(y, x, x) for y in range(1, 4999) for x in (0, 2)]
        self.assert_same_picture(filled(picture=picture_of(deep)), tuple((y, ((0, 2),)) for y in range(5000)))


if __name__ == "__main__":
    unittest.main()
