import itertools
import unittest

from helper import FAR, PictureCase, all_small_pictures, cells, plain_picture
from shapethin.forms import Box, Cross, Shape, Sum
from shapethin.pictures import has_cell, join, less, moved, picture_of
from shapethin.places import has_form, places

ONE_CELL = ((0, ((0, 0),)),)
BLOT = picture_of([(0, 0, 4), (1, 0, 1), (1, 3, 4), (2, 0, 4), (3, 2, 2), (5, -1, 1)])
FORMS = [Box(0, 0, 0, 0), Box(1, 0, 0, 1), Box(0, 0, 2, 0), Cross(1), Shape(((0, ((1, 1),)),)),
         Shape(((-1, ((0, 0), (2, 2))),)), Shape(((-2, ((1, 1),)), (3, ((-1, 0),)))),
         Sum(Box(0, 0, 1, 0), Shape(((1, ((-2, -2),)),)))]


def shifted(form, x, y):
    return {(x + dx, y + dy) for dx, dy in cells(form.cells())}


class HasForm(PictureCase):
    def test_told_ones(self):
        picture = ((0, ((0, 3),)), (1, ((1, 3),)))
        self.assertIs(has_form(picture, Box(0, 0, 1, 1), 1, 0), True)
        self.assertIs(has_form(picture, Box(0, 0, 1, 1), 0, 0), False)
        self.assertIs(has_form(picture, Box(0, 0, 1, 1), 3, 0), False)
        self.assertIs(has_form(picture, Box(1, 1, 0, 0), 2, 1), True)
        self.assertIs(has_form(picture, Box(1, 1, 0, 0), 1, 1), False)

    def test_a_form_without_its_middle_cell(self):
        form = Shape(((0, ((-1, -1), (1, 1))),))
        picture = ((0, ((0, 0), (2, 2))),)
        self.assertIs(has_form(picture, form, 1, 0), True)
        self.assertIs(has_form(picture, form, 0, 0), False)
        self.assertIs(has_form(picture, form, 2, 0), False)

    def test_every_place_of_small_pictures(self):
        for form in FORMS:
            for picture, some in all_small_pictures(range(3), range(2)):
                for x, y in itertools.product(range(-3, 5), range(-4, 5)):
                    self.assertIs(has_form(picture, form, x, y), shifted(form, x, y) <= some)

    def test_it_has_the_form_where_made_smaller_it_has_the_cell(self):
        for form in FORMS:
            for x, y in itertools.product(range(-5, 8), range(-5, 9)):
                self.assertIs(has_form(BLOT, form, x, y), has_cell(form.smaller(BLOT), x, y))

    def test_without_cells(self):
        for form in FORMS:
            self.assertIs(has_form((), form, 0, 0), False)
            self.assertIs(has_form((), form, FAR, -FAR), False)

    def test_far_out(self):
        long = ((FAR, ((-FAR, FAR),)),)
        self.assertIs(has_form(long, Box(FAR, 0, FAR, 0), 0, FAR), True)
        self.assertIs(has_form(long, Box(FAR, 0, FAR, 0), 1, FAR), False)
        self.assertIs(has_form(long, Box(FAR, 0, FAR, 0), 0, FAR - 1), False)
        self.assertIs(has_form(long, Shape(((2 * FAR, ((-FAR, FAR),)),)), 0, -FAR), True)
        self.assertIs(has_form(long, Shape(((2 * FAR, ((-FAR, FAR),)),)), 0, FAR), False)
        self.assertIs(has_form(ONE_CELL, Shape(((-FAR, ((FAR, FAR),)),)), -FAR, FAR), True)
        self.assertIs(has_form(moved(BLOT, FAR, -FAR), Cross(1), 2 + FAR, 2 - FAR), False)
        self.assertIs(has_form(moved(BLOT, FAR, -FAR), Shape(BLOT), FAR, -FAR), True)


class Places(PictureCase):
    def assert_places(self, picture, inside, outside):
        some = cells(picture)
        first = min(cells(inside.cells()))
        asked = [(x - first[0], y - first[1]) for x, y in some]
        expected = {(x, y) for x, y in asked
                    if shifted(inside, x, y) <= some and not shifted(outside, x, y) & some}
        self.assert_same_picture(places(picture, inside, outside), plain_picture(expected))
        return expected

    def test_told_ones(self):
        right_ends = places(BLOT, Box(0, 0, 0, 0), Shape(((0, ((1, 1),)),)))
        self.assert_same_picture(right_ends, ((0, ((4, 4),)), (1, ((1, 1), (4, 4))), (2, ((4, 4),)), (3, ((2, 2),)),
                                              (5, ((1, 1),))))
        above_free = places(BLOT, Box(0, 0, 1, 0), Shape(((-1, ((0, 1),)),)))
        self.assert_same_picture(above_free, ((0, ((0, 3),)), (5, ((-1, 0),))))
        lonely = Shape(((-1, ((-1, 1),)), (0, ((-1, -1), (1, 1))), (1, ((-1, 1),))))
        self.assert_same_picture(places(((0, ((0, 0), (2, 3))), (2, ((0, 0),))), Cross(0), lonely),
                                 ((0, ((0, 0),)), (2, ((0, 0),))))

    def test_the_place_itself_need_not_be_in(self):
        inside = Shape(((0, ((-1, -1), (1, 1))),))
        outside = Box(0, 0, 0, 0)
        self.assert_same_picture(places(BLOT, inside, outside), ((1, ((2, 2),)),))
        self.assert_same_picture(places(BLOT, Shape(((-4, ((9, 9),)),)), Shape(((-4, ((10, 10),)),))),
                                 moved(places(BLOT, Cross(0), Shape(((0, ((1, 1),)),))), -9, 4))

    def test_outside_is_not_turned_about(self):
        picture = ((0, ((0, 1),)), (1, ((0, 0),)))
        self.assert_same_picture(places(picture, Cross(0), Shape(((0, ((1, 1),)),))), ((0, ((1, 1),)), (1, ((0, 0),))))
        self.assert_same_picture(places(picture, Cross(0), Shape(((0, ((-1, -1),)),))),
                                 ((0, ((0, 0),)), (1, ((0, 0),))))
        self.assert_same_picture(places(picture, Cross(0), Shape(((1, ((0, 0),)),))), ((0, ((1, 1),)), (1, ((0, 0),))))
        self.assert_same_picture(places(picture, Cross(0), Shape(((-1, ((0, 0),)),))), ((0, ((0, 1),)),))

    def test_each_two_forms(self):
        found = 0
        for inside, outside in itertools.product(FORMS, repeat=2):
            found += len(self.assert_places(BLOT, inside, outside))
        self.assertGreater(found, 50)

    def test_every_small_picture(self):
        for picture, some in all_small_pictures(range(3), range(3)):
            for one, other in [(0, 4), (4, 0), (5, 1), (2, 5)]:
                if some:
                    self.assert_places(picture, FORMS[one], FORMS[other])

    def test_a_cell_in_common_leaves_no_place(self):
        for form in FORMS:
            self.assert_same_picture(places(BLOT, form, form), ())
        for inside, outside in itertools.product(FORMS, repeat=2):
            if cells(inside.cells()) & cells(outside.cells()):
                self.assert_same_picture(places(BLOT, inside, outside), ())
        far = Shape(((FAR, ((-FAR, FAR),)),))
        self.assert_same_picture(places(((FAR, ((-FAR, FAR),)),), far, Shape(((FAR, ((7, 7),)),))), ())

    def test_without_cells(self):
        for inside, outside in itertools.product(FORMS, repeat=2):
            self.assert_same_picture(places((), inside, outside), ())

    def test_far_out(self):
        long = ((FAR, ((-FAR, FAR),)), (FAR + 1, ((0, 0),)))
        below_free = places(long, Box(0, 0, 0, 0), Shape(((1, ((0, 0),)),)))
        self.assert_same_picture(below_free, ((FAR, ((-FAR, -1), (1, FAR))), (FAR + 1, ((0, 0),))))
        right_end = places(long, Box(10 ** 50, 0, 0, 0), Shape(((0, ((1, 10 ** 50),)),)))
        self.assert_same_picture(right_end, ((FAR, ((FAR, FAR),)),))
        inside, outside = Shape(((-FAR, ((FAR, FAR),)),)), Shape(((-FAR, ((FAR + 1, FAR + 1),)),))
        self.assert_same_picture(places(long, inside, outside), ((2 * FAR, ((0, 0),)), (2 * FAR + 1, ((-FAR, -FAR),))))
        for inside, outside in itertools.product(FORMS, repeat=2):
            self.assert_same_picture(places(moved(BLOT, -FAR, FAR), inside, outside),
                                     moved(places(BLOT, inside, outside), -FAR, FAR))

    def test_by_name_and_the_forms_stay(self):
        inside, outside = Sum(Cross(1), Box(0, 0, 1, 0)), Shape(((4, ((0, 2),)),))
        before = (inside.cells(), outside.cells())
        told = places(picture=BLOT, inside=inside, outside=outside)
        self.assert_same_picture(places(BLOT, inside, outside), told)
        self.assertEqual((inside.cells(), outside.cells()), before)
        self.assertIs(has_form(picture=BLOT, form=Cross(0), x=0, y=0), True)

    def test_places_lie_where_the_picture_has_the_first_form_and_not_the_second(self):
        for inside, outside in itertools.product(FORMS, repeat=2):
            told = places(BLOT, inside, outside)
            self.assert_same_picture(less(told, inside.smaller(BLOT)), ())
            self.assert_same_picture(join(told, inside.smaller(BLOT)), inside.smaller(BLOT))


if __name__ == "__main__":
    unittest.main()
