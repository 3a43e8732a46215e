import itertools
import unittest

from helper import FAR, PictureCase, all_small_pictures, cells, eight_of, grown, patches
from shapethin.drawings import read_drawn
from shapethin.forms import Box, Cross, Shape, Sum
from shapethin.groups import groups
from shapethin.pictures import join, mirrored, moved, picture_of
from shapethin.pieces import picture_of_piece, pieces

WIDE = 10 ** 40
ONE_CELL = ((0, ((0, 0),)),)
NO_MORE = Box(0, 0, 0, 0)
AWAY = Shape(((-2, ((3, 3), (5, 6))), (1, ((2, 2),))))  # has no cell in a row or column of (0, 0)
TWO_APART = Shape(((0, ((-4, -4), (4, 4))),))
FORMS = [NO_MORE, Box(1, 0, 0, 0), Box(0, 1, 0, 0), Box(0, 0, 1, 0), Box(0, 0, 0, 1), Box(1, 1, 1, 1), Box(0, 0, 2, 3),
         Cross(0), Cross(1), Cross(2), AWAY, TWO_APART, Shape(((7, ((9, 9),)),)), Shape(((-3, ((-9, -8),)),)),
         Sum(Box(0, 0, 1, 0), AWAY), Sum(Cross(1), TWO_APART)]


def plain_near(one, other, form):
    """Whether two sets of cells are near: made greater, a cell of the one is one of the other or beside one."""
    made = grown(other, form)
    return any(cell in made for x, y in grown(one, form) for cell in [(x, y)] + eight_of(x, y))


def plain_groups(parts, form):
    """The walk as the document tells it, over the pieces as sets of cells."""
    near = [[plain_near(one, other, form) for other in parts] for one in parts]
    listed = set()
    told = []
    for first in range(len(parts)):
        if first not in listed:
            group = [(first, None)]
            listed.add(first)
            for place, (this, ahead) in enumerate(group):
                for piece in range(len(parts)):
                    if piece not in listed and near[this][piece]:
                        listed.add(piece)
                        group.append((piece, place))
            told.append(group)
    return told


def parts_of(picture):
    return [cells(picture_of_piece(piece)) for piece in pieces(picture)]


class GroupCase(PictureCase):
    def assert_groups(self, told, expected):
        self.assertIs(type(told), list)
        for group in told:
            self.assertIs(type(group), list)
            for pair in group:
                self.assertIs(type(pair), tuple)
        self.assertEqual(told, expected)

    def assert_near(self, one, other, form, is_near):
        """Of a picture of just two pieces."""
        together = [[(0, None), (1, 0)]]
        apart = [[(0, None)], [(1, None)]]
        self.assert_groups(groups(join(one, other), form), together if is_near else apart)


class ToldOnes(GroupCase):
    def test_without_cells(self):
        for form in FORMS:
            self.assert_groups(groups((), form), [])

    def test_one_piece(self):
        ring = read_drawn([".##.", "#..#", ".##."])
        for form in FORMS:
            for picture in [ONE_CELL, ring, moved(ring, FAR, -FAR), ((0, ((-FAR, FAR),)),)]:
                self.assert_groups(groups(picture, form), [[(0, None)]])

    def test_pieces_alone_are_groups_alone(self):
        picture = read_drawn(["#.#.#", ".....", "#.#.#"])
        self.assert_groups(groups(picture, NO_MORE), [[(piece, None)] for piece in range(6)])
        self.assert_groups(groups(picture, Cross(0)), [[(piece, None)] for piece in range(6)])

    def test_places_and_order(self):
        picture = read_drawn(["#.#.#", ".....", "#.#.#"])
        # By (1, 0) each meets the one to its right and, beside one another, the one to its left.
        self.assert_groups(groups(picture, Box(0, 0, 1, 0)), [[(0, None), (1, 0), (2, 1)], [(3, None), (4, 0), (5, 1)]])
        self.assert_groups(groups(picture, Box(0, 0, 0, 1)),
                           [[(0, None), (3, 0)], [(1, None), (4, 0)], [(2, None), (5, 0)]])
        walk = [(0, None), (1, 0), (3, 0), (4, 0), (2, 1), (5, 1)]
        self.assert_groups(groups(picture, Box(0, 0, 1, 1)), [walk])

    def test_the_least_piece_may_stand_in_the_middle(self):
        picture = read_drawn(["......#......", ".............", "#..#..#..#..#"])
        # By the first form the pieces 2 and 4 are near to 0 aslant, by the second one they are not.
        self.assert_groups(groups(picture, Box(1, 1, 1, 0)), [[(0, None), (2, 0), (3, 0), (4, 0), (1, 1), (5, 3)]])
        self.assert_groups(groups(picture, Shape(((-1, ((0, 0),)), (0, ((-1, 1),))))),
                           [[(0, None), (3, 0), (2, 1), (4, 1), (1, 2), (5, 3)]])

    def test_groups_within_one_another(self):
        picture = read_drawn(["#.#.....#.#", "...........", "...........", "#.#.....#.#"])
        self.assert_groups(groups(picture, Box(0, 0, 1, 0)),
                           [[(0, None), (1, 0)], [(2, None), (3, 0)], [(4, None), (5, 0)], [(6, None), (7, 0)]])

    def test_pieces_not_stretches_are_numbered(self):
        picture = read_drawn(["#.#..#", "#.#..#", "###..#", "......", ".....#"])
        self.assert_groups(groups(picture, NO_MORE), [[(0, None)], [(1, None)], [(2, None)]])
        self.assert_groups(groups(picture, Box(0, 1, 0, 0)), [[(0, None)], [(1, None), (2, 0)]])
        self.assert_groups(groups(picture, Box(0, 0, 2, 0)), [[(0, None), (1, 0)], [(2, None)]])


class Near(GroupCase):
    def test_by_a_shared_cell_a_neighbour_and_not_by_one_more(self):
        box = Box(1, 1, 1, 1)
        for apart, is_near in [(2, True), (3, True), (4, False), (5, False)]:
            for dx, dy in [(apart, 0), (0, apart), (apart, apart), (apart, 1), (1, apart), (apart, -1),
                           (-apart, apart)]:
                self.assert_near(ONE_CELL, moved(ONE_CELL, dx, dy), box, is_near)

    def test_by_a_form_of_one_cell_no_two_are_near(self):
        for form in [NO_MORE, Cross(0), Shape(((7, ((9, 9),)),)), Shape(((-FAR, ((FAR, FAR),)),))]:
            for dx, dy in [(2, 0), (0, 2), (2, 2), (2, 1), (-1, 2), (-2, 2)]:
                self.assert_near(ONE_CELL, moved(ONE_CELL, dx, dy), form, False)

    def test_each_way_beside_one_another(self):
        # By each of these forms one cell is made greater to one side alone.
        for left, up, right, down in [(2, 0, 0, 0), (0, 2, 0, 0), (0, 0, 2, 0), (0, 0, 0, 2), (2, 2, 0, 0),
                                      (0, 0, 2, 2), (2, 0, 0, 2), (0, 2, 2, 0)]:
            form = Box(left, up, right, down)
            for dx, dy in itertools.product(range(-5, 6), range(6)):
                if max(abs(dx), dy) >= 2:
                    is_near = abs(dx) <= left + right + 1 and dy <= up + down + 1
                    self.assert_near(ONE_CELL, moved(ONE_CELL, dx, dy), form, is_near)

    def test_aslant(self):
        # Made greater to crosses: they meet by their ends, beside one another or aslant.
        for dx, dy, is_near in [(3, 0, True), (4, 0, False), (2, 1, True), (2, 2, True), (3, 1, True), (3, 2, False),
                                (3, 3, False), (0, 3, True), (1, 3, True), (2, 3, False)]:
            self.assert_near(ONE_CELL, moved(ONE_CELL, dx, dy), Cross(1), is_near)
            self.assert_near(ONE_CELL, moved(ONE_CELL, -dx, dy), Cross(1), is_near)
        steps = Shape(((0, ((0, 0),)), (1, ((1, 1),))))
        self.assert_near(ONE_CELL, moved(ONE_CELL, 2, 2), steps, True)
        self.assert_near(ONE_CELL, moved(ONE_CELL, -2, 2), steps, False)
        self.assert_near(ONE_CELL, moved(ONE_CELL, 0, 2), steps, True)
        self.assert_near(ONE_CELL, moved(ONE_CELL, 3, 2), steps, False)

    def test_forms_that_do_not_lie_round_the_middle(self):
        for form in FORMS:
            for dx, dy in [(50, -70), (-FAR, FAR)]:
                away = Shape(moved(form.cells(), dx, dy))
                for picture in patches(7, 5, 8, (0.3,)):
                    self.assert_groups(groups(picture, away), groups(picture, form))

    def test_a_form_in_two_parts_may_leap_over_a_piece(self):
        row = picture_of([(0, x, x) for x in (0, 4, 8, 12, 16)])
        self.assert_groups(groups(row, TWO_APART), [[(0, None), (2, 0), (4, 1)], [(1, None), (3, 0)]])
        self.assert_groups(groups(row, Sum(TWO_APART, Box(0, 0, 1, 0))),
                           [[(0, None), (2, 0), (4, 1)], [(1, None), (3, 0)]])
        self.assert_groups(groups(row, Sum(TWO_APART, Box(1, 0, 2, 0))), [[(0, None), (1, 0), (2, 0), (3, 0), (4, 1)]])


class ByTheWalk(GroupCase):
    def test_all_small_pictures(self):
        for form in [NO_MORE, Box(0, 0, 1, 0), Box(0, 1, 0, 0), Cross(1), AWAY]:
            form_cells = cells(form.cells())
            for picture, some in all_small_pictures(range(5), range(2)):
                self.assert_groups(groups(picture, form), plain_groups(parts_of(picture), form_cells))
            for picture, some in all_small_pictures(range(3), range(3)):
                self.assert_groups(groups(picture, form), plain_groups(parts_of(picture), form_cells))

    def test_specks(self):
        for form in FORMS:
            form_cells = cells(form.cells())
            for picture in itertools.chain(patches(12, 9, 12, (0.2,)), patches(20, 14, 3, (0.07,))):
                self.assert_groups(groups(picture, form), plain_groups(parts_of(picture), form_cells))

    def test_mirrored_below_nought(self):
        for form in FORMS:
            form_cells = cells(form.cells())
            for picture in patches(12, 9, 4, (0.2,)):
                other = moved(mirrored(picture), -5, -40)
                self.assert_groups(groups(other, form), plain_groups(parts_of(other), form_cells))

    def test_all_pieces_each_once(self):
        for form in FORMS:
            for picture in patches(16, 12, 4, (0.15,)):
                told = groups(picture, form)
                listed = [piece for group in told for piece, place in group]
                self.assertEqual(sorted(listed), list(range(len(pieces(picture)))))
                least = [min(piece for piece, place in group) for group in told]
                self.assertEqual([group[0][0] for group in told], least)
                self.assertEqual(least, sorted(least))
                for group in told:
                    self.assertIsNone(group[0][1])
                    places = [place for piece, place in group[1:]]
                    self.assertEqual(places, sorted(places))

    def test_far_out(self):
        for form in FORMS:
            for picture in patches(12, 9, 3, (0.2,)):
                for dx, dy in [(FAR, -FAR), (-FAR, FAR), (10 ** 99, 10 ** 99)]:
                    self.assert_groups(groups(moved(picture, dx, dy), form), groups(picture, form))


class Great(GroupCase):
    def test_wide_boxes(self):
        pair = picture_of([(0, 0, 0), (0, 3 * WIDE, 3 * WIDE)])
        self.assert_groups(groups(pair, Box(WIDE, 0, WIDE, 0)), [[(0, None)], [(1, None)]])
        self.assert_groups(groups(pair, Box(WIDE, 0, 2 * WIDE - 2, 0)), [[(0, None)], [(1, None)]])
        self.assert_groups(groups(pair, Box(WIDE, 0, 2 * WIDE - 1, 0)), [[(0, None), (1, 0)]])
        self.assert_groups(groups(pair, Box(3 * WIDE - 1, 1000, 0, 0)), [[(0, None), (1, 0)]])
        self.assert_groups(groups(pair, Box(3 * WIDE - 2, 1000, 0, 0)), [[(0, None)], [(1, None)]])

    def test_long_stretches(self):
        bars = picture_of([(3 * k, 0, WIDE) for k in range(5)] + [(6, WIDE + 2, 2 * WIDE)])
        self.assert_groups(groups(bars, NO_MORE), [[(piece, None)] for piece in range(6)])
        self.assert_groups(groups(bars, Box(1, 0, 0, 0)), [[(0, None)], [(1, None)], [(2, None), (3, 0)], [(4, None)],
                                                          [(5, None)]])
        below_one_another = [[(0, None), (1, 0), (2, 1), (4, 2), (5, 3)], [(3, None)]]
        self.assert_groups(groups(bars, Box(0, 1, 0, 1)), below_one_another)
        self.assert_groups(groups(bars, Box(0, 0, 0, 1)), [[(piece, None)] for piece in range(6)])

    def test_high_boxes(self):
        pair = picture_of([(0, 0, 0), (1001, 5, 5)])
        self.assert_groups(groups(pair, Box(2, 400, 2, 600)), [[(0, None), (1, 0)]])
        self.assert_groups(groups(pair, Box(2, 400, 2, 599)), [[(0, None)], [(1, None)]])
        self.assert_groups(groups(pair, Box(2, 1000, 1, 0)), [[(0, None)], [(1, None)]])
        self.assert_groups(groups(pair, Cross(500)), [[(0, None)], [(1, None)]])
        self.assert_groups(groups(pair, Cross(1000)), [[(0, None), (1, 0)]])

    def test_ten_thousand_pieces(self):
        grid = picture_of([(3 * y, 3 * x, 3 * x) for x in range(100) for y in range(100)])
        alone = [[(piece, None)] for piece in range(10000)]
        self.assert_groups(groups(grid, NO_MORE), alone)
        rows = [[(100 * y, None)] + [(100 * y + x, x - 1) for x in range(1, 100)] for y in range(100)]
        self.assert_groups(groups(grid, Box(1, 0, 1, 0)), rows)
        wide = groups(grid, Box(WIDE, 1, WIDE, 0))
        self.assertEqual(len(wide), 100)
        self.assertEqual(wide[7], [(700, None)] + [(700 + x, 0) for x in range(1, 100)])
        self.assert_groups(groups(grid, Box(WIDE, 1, WIDE, 1)), [[(0, None)] + [(x, 0) for x in range(1, 200)]
                           + [(100 * y + x, 100 * y - 100) for y in range(2, 100) for x in range(100)]])

    def test_ten_thousand_pieces_in_one_row(self):
        row = picture_of([(0, 4 * x, 4 * x) for x in range(10000)])
        self.assert_groups(groups(row, Box(1, 0, 1, 0)), [[(piece, None)] for piece in range(10000)])
        one_by_one = [(0, None)] + [(piece, piece - 1) for piece in range(1, 10000)]
        self.assert_groups(groups(row, Box(1, 0, 2, 0)), [one_by_one])
        self.assert_groups(groups(row, Box(WIDE, 0, 0, 0)), [[(0, None)] + [(piece, 0) for piece in range(1, 10000)]])

    def test_one_piece_of_ten_thousand_stretches_and_a_form_of_many(self):
        comb = picture_of([(0, 0, 20000)] + [(1, 2 * x, 2 * x) for x in range(9000)] + [(9, 5, 5)])
        self.assert_groups(groups(comb, Box(0, 0, 0, 7)), [[(0, None), (1, 0)]])
        self.assert_groups(groups(comb, Box(0, 0, 0, 6)), [[(0, None)], [(1, None)]])
        many = Shape(picture_of([(2 * y, 3 * x, 3 * x) for x in range(50) for y in range(100)]))
        self.assert_groups(groups(picture_of([(0, 0, 0), (199, 0, 0), (500, 0, 0)]), many),
                           [[(0, None), (1, 0)], [(2, None)]])


class OwnLists(GroupCase):
    def test_the_lists_are_the_askers_own(self):
        self.assert_own_lists(lambda picture: groups(picture, Box(0, 0, 1, 0)), read_drawn(["#.#.#", ".....", "#.#.#"]))
        nothing = groups((), NO_MORE)
        nothing.append("changed")
        self.assert_groups(groups(picture=(), form=NO_MORE), [])


if __name__ == "__main__":
    unittest.main()
