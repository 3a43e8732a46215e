import itertools
import unittest

from helper import FAR, PictureCase, all_small_pictures, cells, grown, plain_picture, shrunk
from shapethin.errors import NoForm
from shapethin.forms import Box, Cross, Form, Shape, Sum
from shapethin.pictures import join, lies_in, mirrored, moved, picture_of, stretches_of, turned_about

ONE_CELL = ((0, ((0, 0),)),)
AWAY = ((-2, ((3, 3), (5, 6))), (1, ((2, 2),)))  # has no cell in a row or column of (0, 0)
SPREAD_OUT = picture_of([(0, 0, 9), (1, 0, 4), (1, 6, 9), (2, 0, 9), (3, 1, 1), (3, 4, 8), (5, 0, 2), (5, 4, 9),
                         (6, 0, 9), (7, 2, 7), (8, -3, 12)])
SPECKS = picture_of([(k // 13, k % 13, k % 13) for k in range(169) if k % 7 not in (1, 5) and k % 10 != 3])
PICTURES = [(), ONE_CELL, ((4, ((-7, -7),)),), ((0, ((0, 5),)),),
            ((0, ((-1, 1), (4, 6))), (1, ((0, 5),)), (2, ((2, 4),))),
            picture_of([(y, 0, 6) for y in range(7)]), picture_of([(y, 0, 6 - y % 2) for y in range(9) if y != 5]),
            SPREAD_OUT, SPECKS]


def small_forms():
    """Forms of each kind, with their cells as a set."""
    for left, up, right, down in itertools.product(range(3), repeat=4):
        yield Box(left, up, right, down), {(x, y) for x in range(-left, right + 1) for y in range(-up, down + 1)}
    for arm in range(4):
        yield Cross(arm), {(d, 0) for d in range(-arm, arm + 1)} | {(0, d) for d in range(-arm, arm + 1)}
    for picture, some in all_small_pictures(range(-1, 2), range(2)):
        if some:
            yield Shape(picture), some
            yield Shape(moved(picture, 3, -4)), {(x + 3, y - 4) for x, y in some}
    for picture in (AWAY, mirrored(AWAY), turned_about(AWAY), mirrored(turned_about(AWAY))):
        yield Shape(picture), cells(picture)
    yield Sum(Box(1, 0, 0, 2), Cross(2)), grown({(x, y) for x in (-1, 0) for y in (0, 1, 2)}, cells(Cross(2).cells()))
    yield Sum(Shape(AWAY), Shape(AWAY)), grown(cells(AWAY), cells(AWAY))
    yield Sum(Cross(1), Shape(AWAY)), grown({(0, 0), (0, 1), (0, -1), (1, 0), (-1, 0)}, cells(AWAY))


class Kinds(PictureCase):
    def test_each_is_a_form_and_none_is_under_another(self):
        kinds = [Box, Cross, Shape, Sum]
        for kind in kinds:
            self.assertTrue(issubclass(kind, Form))
            self.assertIsNot(kind, Form)
        for one, other in itertools.permutations(kinds, 2):
            self.assertFalse(issubclass(one, other))
        for form in [Box(1, 2, 3, 4), Cross(2), Shape(ONE_CELL), Sum(Cross(1), Cross(1))]:
            self.assertIsInstance(form, Form)

    def test_arguments_by_name(self):
        self.assert_same_picture(Box(down=2, right=4, up=0, left=1).cells(), Box(1, 0, 4, 2).cells())
        self.assert_same_picture(Cross(arm=2).cells(), Cross(2).cells())
        self.assert_same_picture(Shape(picture=AWAY).cells(), AWAY)
        one_then_other = Sum(other=Box(0, 0, 1, 0), one=Box(0, 1, 0, 0))
        self.assert_same_picture(one_then_other.cells(), ((-1, ((0, 1),)), (0, ((0, 1),))))

    def test_a_box_with_a_number_below_nought(self):
        great = [0, 1, 5, 1000, 10 ** 50, FAR]
        for place, below, other in itertools.product(range(4), [-1, -2, -1000, -FAR], great):
            numbers = [other] * 4
            numbers[place] = below
            self.assert_refused(NoForm, Box, *numbers)
            for second in range(4):
                unlike = [0] * 4
                unlike[second] = other
                unlike[place] = below
                self.assert_refused(NoForm, Box, *unlike)
        self.assert_refused(NoForm, Box, -1, -1, -1, -1)

    def test_a_box_that_would_have_cells_yet_has_a_number_below_nought(self):
        for numbers in [(-1, 0, 5, 0), (5, 0, -1, 0), (0, -1, 0, 5), (0, 5, 0, -1)]:
            self.assert_refused(NoForm, Box, *numbers)

    def test_a_cross_with_an_arm_below_nought(self):
        for arm in (-1, -2, -1000, -FAR):
            self.assert_refused(NoForm, Cross, arm)

    def test_the_shape_without_cells(self):
        self.assert_refused(NoForm, Shape, ())
        self.assert_refused(NoForm, Shape, picture_of([(0, 1, 0)]))
        self.assert_refused(NoForm, Shape, Box(1, 0, 0, 0).smaller(ONE_CELL))


class Cells(PictureCase):
    def test_box(self):
        self.assert_same_picture(Box(0, 0, 0, 0).cells(), ONE_CELL)
        self.assert_same_picture(Box(1, 0, 0, 0).cells(), ((0, ((-1, 0),)),))
        self.assert_same_picture(Box(0, 1, 0, 0).cells(), ((-1, ((0, 0),)), (0, ((0, 0),))))
        self.assert_same_picture(Box(0, 0, 1, 0).cells(), ((0, ((0, 1),)),))
        self.assert_same_picture(Box(0, 0, 0, 1).cells(), ((0, ((0, 0),)), (1, ((0, 0),))))
        self.assert_same_picture(Box(3, 1, 5, 2).cells(), tuple((y, ((-3, 5),)) for y in range(-1, 3)))

    def test_box_with_long_sides(self):
        left, right = 10 ** 50 - 1, 10 ** 49 + 7
        self.assert_same_picture(Box(left, 1, right, 0).cells(), ((-1, ((-left, right),)), (0, ((-left, right),))))
        self.assert_same_picture(Box(0, 0, FAR, 0).cells(), ((0, ((0, FAR),)),))

    def test_box_of_many_rows(self):
        for up, down in [(1000, 0), (0, 1000), (400, 600), (511, 1), (300, 200), (0, 127), (128, 0)]:
            self.assert_same_picture(Box(2, up, 1, down).cells(), tuple((y, ((-2, 1),)) for y in range(-up, down + 1)))

    def test_cross(self):
        self.assert_same_picture(Cross(0).cells(), ONE_CELL)
        self.assert_same_picture(Cross(1).cells(), ((-1, ((0, 0),)), (0, ((-1, 1),)), (1, ((0, 0),))))
        for arm in (2, 7, 64, 1000):
            expected = tuple((y, ((0, 0),) if y else ((-arm, arm),)) for y in range(-arm, arm + 1))
            self.assert_same_picture(Cross(arm).cells(), expected)

    def test_shape(self):
        far = [((FAR, ((-FAR, -FAR),)),), ((-FAR, ((-FAR, FAR),)), (FAR, ((3, 4),)))]
        for picture in [ONE_CELL, AWAY, SPREAD_OUT, SPECKS] + far:
            self.assert_same_picture(Shape(picture).cells(), picture)
        for picture, some in all_small_pictures(range(-1, 2), range(-1, 2)):
            if some:
                self.assert_same_picture(Shape(picture).cells(), picture)

    def test_shape_of_many_stretches(self):
        picture = picture_of([(k // 100, 3 * (k % 100), 3 * (k % 100) + k % 2) for k in range(10000)])
        self.assertEqual(len(stretches_of(picture)), 10000)
        self.assert_same_picture(Shape(picture).cells(), picture)

    def test_sum(self):
        self.assert_same_picture(Sum(Box(1, 2, 3, 4), Box(5, 0, 1, 1)).cells(), Box(6, 2, 4, 5).cells())
        self.assert_same_picture(Sum(Box(0, 0, 0, 0), Shape(AWAY)).cells(), AWAY)
        self.assert_same_picture(Sum(Cross(1), Cross(1)).cells(),
                                 ((-2, ((0, 0),)), (-1, ((-1, 1),)), (0, ((-2, 2),)), (1, ((-1, 1),)), (2, ((0, 0),))))
        far = Shape(((FAR, ((-FAR, -FAR),)),))
        self.assert_same_picture(Sum(far, far).cells(), ((2 * FAR, ((-2 * FAR, -2 * FAR),)),))
        self.assert_same_picture(Sum(far, Box(FAR, 0, FAR, 0)).cells(), ((FAR, ((-2 * FAR, 0),)),))

    def test_sum_of_each_two(self):
        some = list(small_forms())[::9]
        for (one, here), (other, there) in itertools.product(some, repeat=2):
            self.assert_same_picture(Sum(one, other).cells(), plain_picture(grown(here, there)))

    def test_each_kind_cell_by_cell(self):
        for form, some in small_forms():
            self.assert_same_picture(form.cells(), plain_picture(some))


class GreaterAndSmaller(PictureCase):
    def assert_all_four(self, form, form_cells, picture):
        some = cells(picture)
        greater = grown(some, form_cells)
        smaller = shrunk(some, form_cells)
        self.assert_same_picture(form.greater(picture), plain_picture(greater))
        self.assert_same_picture(form.smaller(picture), plain_picture(smaller))
        self.assert_same_picture(form.opened(picture), plain_picture(grown(smaller, form_cells)))
        self.assert_same_picture(form.closed(picture), plain_picture(shrunk(greater, form_cells)))

    def test_each_form_on_each_picture(self):
        for form, form_cells in small_forms():
            for picture in PICTURES:
                self.assert_all_four(form, form_cells, picture)

    def test_every_small_picture(self):
        forms = [(Box(1, 0, 0, 0), {(-1, 0), (0, 0)}), (Box(0, 1, 0, 0), {(0, -1), (0, 0)}),
                 (Box(0, 0, 1, 1), {(0, 0), (1, 0), (0, 1), (1, 1)}),
                 (Cross(1), {(0, 0), (1, 0), (-1, 0), (0, 1), (0, -1)}),
                 (Shape(((0, ((0, 0), (2, 2))),)), {(0, 0), (2, 0)}), (Shape(((3, ((1, 1),)),)), {(1, 3)}),
                 (Shape(((0, ((0, 0),)), (1, ((1, 1),)))), {(0, 0), (1, 1)})]
        for picture, some in all_small_pictures(range(3), range(3)):
            for form, form_cells in forms:
                self.assert_all_four(form, form_cells, picture)

    def test_by_name(self):
        self.assert_same_picture(Cross(1).greater(picture=ONE_CELL), Cross(1).cells())
        self.assert_same_picture(Cross(1).smaller(picture=Cross(1).cells()), ONE_CELL)
        self.assert_same_picture(Cross(1).opened(picture=Cross(1).cells()), Cross(1).cells())
        self.assert_same_picture(Cross(1).closed(picture=ONE_CELL), ONE_CELL)

    def test_told_ones(self):
        self.assert_same_picture(Box(1, 0, 2, 1).greater(((5, ((10, 12), (20, 20))),)),
                                 ((5, ((9, 14), (19, 22))), (6, ((9, 14), (19, 22)))))
        self.assert_same_picture(Box(1, 0, 2, 1).smaller(((5, ((10, 14), (20, 22))), (6, ((10, 13), (18, 30))))),
                                 ((5, ((11, 11),)),))
        self.assert_same_picture(Shape(((2, ((10, 10),)),)).greater(((0, ((1, 2),)),)), ((2, ((11, 12),)),))
        self.assert_same_picture(Shape(((2, ((10, 10),)),)).smaller(((0, ((1, 2),)),)), ((-2, ((-9, -8),)),))
        self.assert_same_picture(Box(0, 0, 1, 0).opened(((0, ((0, 0), (2, 5))),)), ((0, ((2, 5),)),))
        self.assert_same_picture(Box(0, 0, 1, 0).closed(((0, ((0, 0), (2, 5), (8, 8))),)), ((0, ((0, 5), (8, 8))),))

    def test_cells_that_lie_apart_in_the_form(self):
        # What the form asks for in one row may lie beyond stretches that it does not ask for.
        for side, far, down in itertools.product((1, -1), (1, 5), (1, -1, 4, -4)):
            some = {(5, 0), (5 + 2 * side, 0), (5 - 2 * side, 0), (5 + far * side, down), (40, down), (-40, down)}
            for form_cells in [{(0, 0), (far * side, down)}, {(-far * side, 0), (0, down)}]:
                self.assert_all_four(Shape(plain_picture(form_cells)), form_cells, plain_picture(some))
        lone = Shape(((0, ((-5, -5),)), (1, ((0, 0),))))
        self.assert_same_picture(lone.smaller(((0, ((5, 5), (8, 8))), (1, ((10, 10),)))), ((0, ((10, 10),)),))
        lone = Shape(((0, ((5, 5),)), (1, ((0, 0),))))
        self.assert_same_picture(lone.smaller(((0, ((5, 5), (8, 8))), (1, ((3, 3), (9, 9))))), ((0, ((3, 3),)),))

    def test_far_out(self):
        far = Shape(((-FAR, ((FAR - 1, FAR),)), (FAR, ((-FAR, -FAR),))))
        picture = ((FAR, ((5, 9),)),)
        self.assert_same_picture(far.greater(picture), ((0, ((FAR + 4, FAR + 9),)), (2 * FAR, ((5 - FAR, 9 - FAR),))))
        self.assert_same_picture(far.smaller(picture), ())
        self.assert_same_picture(far.smaller(far.greater(picture)), picture)
        self.assert_same_picture(far.smaller(far.cells()), ONE_CELL)
        self.assert_same_picture(far.opened(far.greater(picture)), far.greater(picture))
        self.assert_same_picture(far.greater(()), ())
        self.assert_same_picture(far.smaller(()), ())

    def test_long_sides_and_long_stretches(self):
        left, right = 10 ** 50 - 1, 10 ** 49 + 7
        picture = ((-FAR, ((-FAR, FAR),)), (1 - FAR, ((-FAR, 0), (right + 9, FAR))))
        form = Box(left, 0, right, 1)
        wide = ((-FAR - left, FAR + right),)
        self.assert_same_picture(form.greater(picture), ((-FAR, wide), (1 - FAR, wide), (2 - FAR, wide)))
        self.assert_same_picture(form.smaller(picture),
                                 ((-FAR, ((left - FAR, -right), (right + 9 + left, FAR - right))),))
        self.assert_same_picture(Box(FAR, 0, FAR, 0).smaller(((7, ((-FAR, FAR),)),)), ((7, ((0, 0),)),))
        self.assert_same_picture(Box(FAR, 0, FAR, 0).smaller(((7, ((-FAR, FAR - 1),)),)), ())
        shown_again = Box(FAR, 0, FAR, 0).greater(form.greater(picture))
        self.assert_same_picture(Box(FAR, 0, FAR, 0).smaller(shown_again), form.greater(picture))

    def test_pictures_with_numbers_of_a_hundred_figures(self):
        out = 10 ** 100 - 1
        picture = ((-out, ((-out, 3 - out),)), (out, ((out - 1, out),)))
        self.assert_same_picture(Box(1, 0, 0, 0).greater(picture),
                                 ((-out, ((-out - 1, 3 - out),)), (out, ((out - 2, out),))))
        self.assert_same_picture(Box(1, 0, 1, 0).smaller(picture), ((-out, ((1 - out, 2 - out),)),))
        self.assert_same_picture(Shape(picture).smaller(picture), ONE_CELL)

    def test_many_rows(self):
        picture = picture_of([(y, y % 7, 40 + y % 5) for y in range(3000)])
        self.assert_same_picture(Box(0, 400, 0, 600).smaller(picture), tuple((y, ((6, 40),)) for y in range(400, 2400)))
        self.assert_same_picture(Box(0, 0, 0, 1000).greater(((0, ((0, 0),)), (1001, ((0, 0),)))),
                                 tuple((y, ((0, 0),)) for y in range(2002)))
        self.assert_same_picture(Cross(1000).smaller(Cross(1000).cells()), ONE_CELL)
        self.assert_same_picture(Cross(1000).smaller(Cross(999).cells()), ())
        self.assert_same_picture(Cross(1000).opened(Cross(1000).cells()), Cross(1000).cells())

    def test_a_box_just_as_great_as_the_picture_or_greater_by_one(self):
        for up, down in itertools.product(range(9), repeat=2):
            picture = picture_of([(y, 3, 5) for y in range(-up, down + 1)])
            self.assert_same_picture(Box(0, up, 2, down).smaller(picture), ((0, ((3, 3),)),))
            self.assert_same_picture(Box(0, up + 1, 2, down).smaller(picture), ())
            self.assert_same_picture(Box(0, up, 2, down + 1).smaller(picture), ())
            self.assert_same_picture(Box(0, up, 3, down).smaller(picture), ())
            self.assert_same_picture(Box(1, up, 2, down).smaller(picture), ())

    def test_ten_thousand_stretches(self):
        grid = picture_of([(2 * (k // 100), 2 * (k % 100), 2 * (k % 100)) for k in range(10000)])
        line = picture_of([(0, 2 * k, 2 * k) for k in range(10000)])
        for picture in (grid, line):
            self.assertEqual(len(stretches_of(picture)), 10000)
            self.assert_same_picture(Shape(picture).smaller(picture), ONE_CELL)
            self.assert_same_picture(Shape(picture).opened(picture), picture)
        self.assert_same_picture(Box(0, 0, 1, 1).greater(grid), picture_of([(y, 0, 199) for y in range(200)]))
        self.assert_same_picture(Box(0, 0, 1, 0).smaller(grid), ())
        box = Box(500, 500, 500, 500)
        self.assert_same_picture(box.closed(grid), Shape(box.cells()).closed(grid))

    def test_the_picture_handed_in_and_the_form_stay(self):
        form = Sum(Shape(AWAY), Cross(2))
        before = form.cells()
        for ask in (form.greater, form.smaller, form.opened, form.closed):
            self.assert_same_picture(ask(SPREAD_OUT), ask(SPREAD_OUT))
            self.assert_same_picture(form.cells(), before)


class SameCells(PictureCase):
    def test_forms_of_unlike_kinds_with_the_same_cells_do_the_same(self):
        diamond = ((-1, ((0, 0),)), (0, ((-1, 1),)), (1, ((0, 0),)))
        alike = [
            [Box(0, 0, 0, 0), Cross(0), Shape(ONE_CELL), Sum(Cross(0), Box(0, 0, 0, 0)),
             Sum(Shape(((7, ((-3, -3),)),)), Shape(((-7, ((3, 3),)),)))],
            [Cross(1), Shape(diamond), Sum(Cross(1), Cross(0)), Sum(Box(0, 0, 0, 0), Shape(diamond))],
            [Box(2, 1, 3, 4), Shape(Box(2, 1, 3, 4).cells()), Sum(Box(2, 0, 0, 4), Box(0, 1, 3, 0)),
             Sum(Shape(Box(2, 0, 0, 4).cells()), Box(0, 1, 3, 0)), Sum(Box(0, 1, 3, 4), Shape(((0, ((-2, 0),)),)))],
            [Sum(Cross(1), Cross(1)), Sum(Shape(diamond), Cross(1)), Shape(Sum(Cross(1), Cross(1)).cells())],
            [Sum(Cross(2), Shape(AWAY)), Sum(Shape(AWAY), Cross(2)), Shape(Sum(Cross(2), Shape(AWAY)).cells())],
        ]
        for forms in alike:
            for form, picture in itertools.product(forms[1:], PICTURES):
                self.assert_same_picture(form.cells(), forms[0].cells())
                self.assert_same_picture(form.greater(picture), forms[0].greater(picture))
                self.assert_same_picture(form.smaller(picture), forms[0].smaller(picture))
                self.assert_same_picture(form.opened(picture), forms[0].opened(picture))
                self.assert_same_picture(form.closed(picture), forms[0].closed(picture))

    def test_a_shape_of_every_small_box(self):
        for numbers in itertools.product(range(3), repeat=4):
            box = Box(*numbers)
            shape = Shape(box.cells())
            self.assert_same_picture(shape.greater(SPREAD_OUT), box.greater(SPREAD_OUT))
            self.assert_same_picture(shape.smaller(SPREAD_OUT), box.smaller(SPREAD_OUT))


class SumsWithinSums(PictureCase):
    def test_any_bracketing(self):
        one, other, third = Cross(1), Shape(AWAY), Box(1, 0, 2, 1)
        forms = [Sum(Sum(a, b), c) for a, b, c in itertools.permutations([one, other, third])]
        forms += [Sum(a, Sum(b, c)) for a, b, c in itertools.permutations([one, other, third])]
        expected = plain_picture(grown(grown(cells(one.cells()), cells(AWAY)), cells(third.cells())))
        great = picture_of([(y, -20, 20) for y in range(-20, 21)] + [(25, 0, 3)])
        for form in forms:
            self.assert_same_picture(form.cells(), expected)
            for picture in PICTURES + [great]:
                self.assert_same_picture(form.greater(picture), third.greater(other.greater(one.greater(picture))))
                self.assert_same_picture(form.smaller(picture), third.smaller(other.smaller(one.smaller(picture))))
        self.assertNotEqual(forms[0].smaller(great), ())

    def test_twenty_deep(self):
        form = Cross(1)
        for _ in range(20):
            form = Sum(form, Cross(1))
        diamond = tuple((y, ((abs(y) - 21, 21 - abs(y)),)) for y in range(-21, 22))
        self.assert_same_picture(form.cells(), diamond)
        self.assert_same_picture(form.smaller(diamond), ONE_CELL)
        self.assert_same_picture(form.opened(diamond), diamond)

    def test_twenty_deep_of_boxes_each_with_itself(self):
        form = Box(1, 0, 0, 0)
        for _ in range(20):
            form = Sum(form, form)
        self.assert_same_picture(form.cells(), ((0, ((-(2 ** 20), 0),)),))
        self.assert_same_picture(form.smaller(((3, ((0, 2 ** 20 + 1),)),)), ((3, ((2 ** 20, 2 ** 20 + 1),)),))

    def test_a_sum_changes_neither_of_its_forms(self):
        one, other = Shape(AWAY), Box(0, 1, 1, 0)
        Sum(Sum(one, other), one)
        self.assert_same_picture(one.cells(), AWAY)
        self.assert_same_picture(other.cells(), ((-1, ((0, 1),)), (0, ((0, 1),))))


class ThePromise(PictureCase):
    forms = [Box(0, 0, 0, 0), Box(1, 0, 0, 0), Box(0, 1, 1, 0), Cross(1), Shape(((0, ((0, 0), (2, 2))),)),
             Shape(((0, ((1, 1),)), (1, ((0, 0),)))), Shape(((5, ((-4, -4),)),)), Sum(Cross(1), Box(0, 0, 1, 0)),
             Shape(AWAY)]

    def test_greater_lies_in_just_where_it_lies_in_smaller(self):
        small = [picture for picture, some in all_small_pictures(range(2), range(2))]
        great = [picture for picture, some in all_small_pictures(range(3), range(3))][::3]
        for form, one, other in itertools.product(self.forms, small, great):
            self.assertIs(lies_in(form.greater(one), other), lies_in(one, form.smaller(other)))
        for form, one, other in itertools.product(self.forms, PICTURES, PICTURES):
            self.assertIs(lies_in(form.greater(one), other), lies_in(one, form.smaller(other)))
            grown_one = form.greater(one)
            self.assertTrue(lies_in(one, form.smaller(join(grown_one, other))))

    def test_opened_lies_in_it_and_it_in_closed_and_again_changes_neither(self):
        pictures = PICTURES + [picture for picture, some in all_small_pictures(range(3), range(3))]
        for form, picture in itertools.product(self.forms, pictures):
            opened = form.opened(picture)
            closed = form.closed(picture)
            self.assertTrue(lies_in(opened, picture))
            self.assertTrue(lies_in(picture, closed))
            self.assert_same_picture(form.opened(opened), opened)
            self.assert_same_picture(form.closed(closed), closed)

    def test_what_lies_in_another_does_so_behind_each_of_the_four(self):
        small = [picture for picture, some in all_small_pictures(range(3), range(2))]
        for one, other in itertools.product(small, repeat=2):
            if lies_in(one, other):
                for form in self.forms:
                    self.assertTrue(lies_in(form.greater(one), form.greater(other)))
                    self.assertTrue(lies_in(form.smaller(one), form.smaller(other)))
                    self.assertTrue(lies_in(form.opened(one), form.opened(other)))
                    self.assertTrue(lies_in(form.closed(one), form.closed(other)))

    def test_by_one_and_then_by_another_is_by_the_sum(self):
        great = picture_of([(y, -9, 9 + y % 2) for y in range(-9, 10)] + [(15, 0, 3), (16, 0, 9)])
        for one, other in itertools.product(self.forms, repeat=2):
            both = Sum(one, other)
            for picture in PICTURES + [great]:
                self.assert_same_picture(other.greater(one.greater(picture)), both.greater(picture))
                self.assert_same_picture(other.smaller(one.smaller(picture)), both.smaller(picture))

    def test_far_out(self):
        long = ((-FAR, ((-FAR, 7),)), (FAR, ((0, 0), (2, FAR))))
        for form in self.forms + [Box(10 ** 50, 0, 10 ** 50, 0), Shape(long)]:
            greater = form.greater(long)
            self.assertTrue(lies_in(long, form.smaller(greater)))
            self.assertTrue(lies_in(form.opened(long), long))
            self.assert_same_picture(form.opened(greater), greater)
            self.assert_same_picture(form.closed(form.closed(long)), form.closed(long))


if __name__ == "__main__":
    unittest.main()
