"""What the document promises over the whole program, line by line."""

import itertools
import unittest

from helper import (FAR, PictureCase, all_small_pictures, cells, eight_of, four_of, left_out_with_an_end,
                    patches, plain_components, plain_picture, widened_picture)
from shapethin.cores import cores, joined_cores
from shapethin.forms import Box, Cross, Shape, Sum
from shapethin.holes import holes
from shapethin.measures import told_number
from shapethin.pictures import (cells_of, common, either, join, less, lies_in, mirrored, moved, picture_of,
                                stretches_of, turned, turned_about)
from shapethin.pieces import picture_of_piece, pieces
from shapethin.rounds import may_go
from shapethin.texts import read, show
from shapethin.thin import thinned

WIDE = 10 ** 40
FORMS = [Box(0, 0, 0, 0), Box(1, 0, 0, 1), Box(0, 0, 1, 0), Box(1, 1, 1, 1), Cross(1), Cross(0),
         Shape(((0, ((0, 0), (2, 2))),)), Shape(((-2, ((3, 3), (5, 6))), (1, ((2, 2),)))),
         Sum(Box(0, 0, 1, 0), Cross(1)), Sum(Shape(((0, ((0, 0), (2, 2))),)), Box(0, 1, 0, 0))]
WIDE_FORMS = [Box(WIDE, 1, 3 * WIDE, 0), Shape(((0, ((-WIDE, 0), (WIDE, 2 * WIDE))), (FAR, ((FAR, FAR),)))),
              Sum(Box(WIDE, 0, 0, 0), Cross(2))]
SMALL = [picture for picture, some in all_small_pictures(range(3), range(2))]


def walled(wide, high, many):
    """The same turned inside out: a block with a whole wall, from which cells are taken by chance."""
    block = {(x, y) for x in range(-1, wide + 1) for y in range(-1, high + 1)}
    for picture in patches(wide, high, many):
        yield plain_picture(block - cells(picture))


# Far out and with stretches of forty figures.
FAR_ONES = [moved(picture, FAR, -FAR) for picture in patches(7, 5, 4)]
FAR_ONES += [widened_picture(picture, WIDE, -FAR, FAR) for picture in list(patches(7, 5, 4)) + list(walled(5, 4, 3))]


class ToldAlike(PictureCase):
    def test_just_where_the_cells_are_the_same(self):
        for one, other in itertools.product(SMALL, repeat=2):
            self.assertEqual(one == other, cells(one) == cells(other))
            self.assertEqual(show(one) == show(other), cells(one) == cells(other))

    def test_whatever_way_they_were_made(self):
        for picture in list(patches(6, 5, 30)) + FAR_ONES:
            stretches = stretches_of(picture)
            half = picture_of(stretches[::2])
            ways = [picture_of(stretches), picture_of(stretches[::-1] + stretches), join(half, less(picture, half)),
                    either(less(picture, half), half), common(join(picture, half), picture),
                    mirrored(mirrored(picture)), turned_about(turned_about(picture)),
                    picture_of([(y, a, a) for y, a, b in stretches] + [(y, a + 1, b) for y, a, b in stretches]),
                    join((), picture), less(picture, ())]
            for way in ways:
                self.assert_same_picture(way, picture)
        for picture in patches(6, 5, 30):
            self.assert_same_picture(turned(turned(turned(turned(picture)))), picture)
            self.assert_same_picture(read(show(picture)), picture)
            self.assert_same_picture(plain_picture(set(cells_of(picture))), picture)


class GreaterAndSmaller(PictureCase):
    def assert_laws(self, form, some):
        greater = [form.greater(picture) for picture in some]
        smaller = [form.smaller(picture) for picture in some]
        opened = [form.opened(picture) for picture in some]
        closed = [form.closed(picture) for picture in some]
        for picture, less_of_it, more_of_it in zip(some, opened, closed):
            self.assertTrue(lies_in(less_of_it, picture))
            self.assertTrue(lies_in(picture, more_of_it))
            self.assert_same_picture(form.opened(less_of_it), less_of_it)
            self.assert_same_picture(form.closed(more_of_it), more_of_it)
        for one, other in itertools.product(range(len(some)), repeat=2):
            self.assertEqual(lies_in(greater[one], some[other]), lies_in(some[one], smaller[other]))
            if lies_in(some[one], some[other]):
                for made in (greater, smaller, opened, closed):
                    self.assertTrue(lies_in(made[one], made[other]))

    def test_the_four_on_small_pictures(self):
        for form in FORMS:
            self.assert_laws(form, SMALL)

    def test_the_four_on_greater_pictures(self):
        some = list(patches(6, 5, 10)) + [plain_picture({(x, y) for x in range(8) for y in range(7)})]
        for form in FORMS:
            self.assert_laws(form, some + [form.greater(picture) for picture in some])

    def test_the_four_far_out(self):
        for form in FORMS + WIDE_FORMS:
            self.assert_laws(form, FAR_ONES + [form.greater(picture) for picture in FAR_ONES])

    def test_by_one_and_then_by_the_other_is_by_the_sum_of_both(self):
        room = [plain_picture({(x, y) for x in range(12) for y in range(9)} - {(4, 4), (9, 2)})]
        for one, other in itertools.product(FORMS + WIDE_FORMS, repeat=2):
            both = Sum(one, other)
            for picture in SMALL[::7] + room + FAR_ONES:
                self.assert_same_picture(both.greater(picture), other.greater(one.greater(picture)))
                self.assert_same_picture(both.smaller(picture), other.smaller(one.smaller(picture)))


class PiecesAndHoles(PictureCase):
    def assert_pieces(self, picture, some):
        parts = [cells(picture_of_piece(piece)) for piece in pieces(picture)]
        self.assertEqual(sum(len(part) for part in parts), len(some))
        self.assertEqual(set().union(*parts), some)
        for part in parts:
            self.assertEqual(len(plain_components(part, eight_of)), 1)
            self.assertTrue(all(cell in part or cell not in some for x, y in part for cell in eight_of(x, y)))

    def assert_holes(self, picture, some):
        told = [picture_of_piece(hole) for hole in holes(picture)]
        self.assertEqual(sorted(told), sorted(left_out_with_an_end(some)))
        for hole in [cells(hole) for hole in told]:
            self.assertEqual(len(plain_components(hole, four_of)), 1)
            self.assertTrue(all(cell in hole or cell in some for x, y in hole for cell in four_of(x, y)))

    def assert_all(self, picture, some):
        self.assert_pieces(picture, some)
        self.assert_holes(picture, some)
        self.assertEqual(told_number(picture), len(pieces(picture)) - len(holes(picture)))

    def test_of_small_pictures(self):
        for picture, some in all_small_pictures(range(4), range(3)):
            self.assert_all(picture, some)

    def test_of_greater_pictures(self):
        for picture in itertools.chain(patches(9, 8, 40), walled(7, 6, 40)):
            self.assert_all(picture, cells(picture))

    def test_far_out(self):
        for picture in itertools.chain(patches(9, 8, 10), walled(7, 6, 10)):
            for far in (moved(picture, FAR, -FAR), widened_picture(picture, WIDE, FAR, -FAR)):
                self.assertEqual(len(pieces(far)), len(plain_components(cells(picture), eight_of)))
                self.assertEqual(len(holes(far)), len(left_out_with_an_end(cells(picture))))
                self.assertEqual(told_number(far), len(pieces(far)) - len(holes(far)))
                whole = ()
                for piece in pieces(far):
                    self.assertEqual(common(whole, Box(1, 1, 1, 1).greater(picture_of_piece(piece))), ())
                    whole = join(whole, picture_of_piece(piece))
                self.assert_same_picture(whole, far)
                for hole in [picture_of_piece(hole) for hole in holes(far)]:
                    self.assertEqual(common(hole, far), ())
                    self.assertTrue(lies_in(less(Cross(1).greater(hole), hole), far))


class Thinned(PictureCase):
    def assert_one_in_each(self, inner, outer):
        """Each of the inner pictures lies in one of the outer ones, and each of these has just one."""
        found = [[place for place, one in enumerate(outer) if common(one, this) != ()] for this in inner]
        self.assertEqual(sorted(found), [[place] for place in range(len(outer))])
        for this, places in zip(inner, found):
            self.assertTrue(lies_in(this, outer[places[0]]))

    def assert_kept(self, picture):
        for ends in (True, False):
            left, taken = thinned(picture, ends)
            self.assert_one_in_each([picture_of_piece(piece) for piece in pieces(left)],
                                    [picture_of_piece(piece) for piece in pieces(picture)])
            self.assert_one_in_each([picture_of_piece(hole) for hole in holes(picture)],
                                    [picture_of_piece(hole) for hole in holes(left)])
            self.assertEqual([cell for cell in cells_of(left) if may_go(left, cell[0], cell[1], ends)], [])
            going = picture
            for x, y in taken:
                self.assertIs(may_go(going, x, y, ends), True)
                going = less(going, ((y, ((x, x),)),))
            self.assertEqual(going, left)

    def test_small_pictures(self):
        for picture, some in all_small_pictures(range(4), range(3)):
            self.assert_kept(picture)

    def test_greater_pictures(self):
        for picture in itertools.chain(patches(9, 8, 40), walled(7, 6, 40), walled(20, 20, 3)):
            self.assert_kept(picture)

    def test_far_out(self):
        for picture in itertools.chain(patches(7, 7, 8), walled(6, 6, 8)):
            self.assert_kept(moved(picture, FAR, -FAR))
            self.assert_kept(join(picture, moved(picture, -FAR, FAR)))


class Cores(PictureCase):
    def assert_joined(self, picture, form):
        some = cores(picture, form, 100)
        self.assert_same_picture(joined_cores(some, form), picture)
        joined = ()
        for place, core in enumerate(some):
            for again in range(place):
                core = form.greater(core)
            joined = join(joined, core)
        self.assert_same_picture(joined, picture)

    def test_of_small_pictures(self):
        for form in FORMS[1:5] + FORMS[6:]:
            for picture in SMALL + [moved(picture, FAR, -FAR) for picture in SMALL[::5]]:
                self.assert_joined(picture, form)

    def test_of_greater_pictures_and_far_out(self):
        rows = [moved(plain_picture({(x, y) for x in range(9) for y in range(7)}), -4, -3)]
        for form in [Box(1, 0, 0, 1), Box(1, 1, 1, 1), Cross(1), FORMS[7]] + WIDE_FORMS:
            for picture in itertools.chain(patches(9, 8, 10), walled(7, 6, 10), rows, FAR_ONES):
                self.assert_joined(picture, form)
                self.assert_joined(form.greater(picture), form)


if __name__ == "__main__":
    unittest.main()
