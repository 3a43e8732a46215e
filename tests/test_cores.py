import itertools
import unittest

from helper import FAR, PictureCase, all_small_pictures, cells, grown, patches, plain_picture, shrunk
from shapethin.cores import cores, fold, joined_cores, sieve
from shapethin.drawings import read_drawn
from shapethin.errors import NoForm, TooMany
from shapethin.forms import Box, Cross, Form, Shape, Sum
from shapethin.pictures import count_cells, join, moved, picture_of

WIDE = 10 ** 40
ONE_CELL = ((0, ((0, 0),)),)
TWO_APART = Shape(((0, ((0, 0), (2, 2))),))
AWAY = Shape(((-2, ((3, 3), (5, 6))), (1, ((2, 2),))))  # has no cell in a row or column of (0, 0)
FORMS = [Box(1, 0, 0, 0), Box(0, 0, 0, 1), Box(0, 0, 1, 1), Box(1, 1, 1, 1), Box(2, 0, 1, 1), Cross(1), Cross(2),
         TWO_APART, AWAY, Shape(((5, ((7, 8),)),)), Shape(((0, ((0, 0),)), (1, ((1, 1),)))),
         Sum(Box(0, 0, 1, 0), Box(0, 1, 0, 0)), Sum(Cross(1), AWAY), Sum(Sum(TWO_APART, Cross(1)), Box(0, 0, 1, 0))]
SMALL_FORMS = [Box(0, 0, 1, 0), Box(0, 0, 0, 1), Box(0, 0, 1, 1), Box(1, 0, 1, 0), Cross(1), TWO_APART,
               Shape(((0, ((0, 0),)), (1, ((1, 1),)))), Shape(((5, ((7, 8),)),)), Sum(Box(0, 0, 1, 0), Box(0, 1, 0, 0))]
OF_ONE_CELL = [Box(0, 0, 0, 0), Cross(0), Shape(ONE_CELL), Shape(((-7, ((5, 5),)),)), Shape(((FAR, ((-FAR, -FAR),)),)),
               Sum(Box(0, 0, 0, 0), Cross(0)), Sum(Shape(((3, ((4, 4),)),)), Cross(0)),
               Sum(Shape(((FAR, ((1, 1),)),)), Shape(((-FAR, ((-1, -1),)),))), Sum(Cross(0), Sum(Cross(0), Cross(0)))]
BLOT = picture_of([(0, 0, 9), (1, 0, 4), (1, 6, 9), (2, 0, 9), (3, 1, 1), (3, 4, 8), (5, 0, 2), (5, 4, 9), (6, 0, 9),
                   (7, 2, 7), (8, -3, 12)])


def block(wide, high):
    return tuple((y, ((0, wide - 1),)) for y in range(high))


def diamond(arm):
    return tuple((y, ((abs(y) - arm, arm - abs(y)),)) for y in range(-arm, arm + 1))


def plain_fold(form, many):
    """The sum of a set of cells with itself, so often as there is nothing but (0, 0) left to add to it."""
    folded = {(0, 0)}
    for again in range(many):
        folded = grown(folded, form)
    return folded


def again_and_again(make, picture, many):
    for again in range(many):
        picture = make(picture)
    return picture


def plain_sieve(some, form, most):
    counts = []
    for many in range(most + 1):
        folded = plain_fold(form, many)
        counts.append(len(grown(shrunk(some, folded), folded)))
        if counts[-1] == 0:
            break
    return counts


def plain_cores(some, form):
    """Core by core: Ak, less Ak opened, as long as Ak has a cell."""
    told = []
    while some:
        told.append(plain_picture(some - grown(shrunk(some, form), form)))
        some = shrunk(some, form)
    return told


class Fold(PictureCase):
    def assert_form_of(self, form, picture):
        self.assertIsInstance(form, Form)
        self.assert_same_picture(form.cells(), picture)

    def test_nought_fold(self):
        for form in FORMS + OF_ONE_CELL + [Box(FAR, 1000, FAR, 0), Cross(1000), Shape(((FAR, ((0, FAR),)),))]:
            nothing_done = fold(form, 0)
            self.assert_form_of(nothing_done, ONE_CELL)
            for picture in [(), ONE_CELL, BLOT, moved(BLOT, FAR, -FAR)]:
                for make in (nothing_done.greater, nothing_done.smaller, nothing_done.opened, nothing_done.closed):
                    self.assert_same_picture(make(picture), picture)

    def test_one_fold(self):
        for form in FORMS + OF_ONE_CELL:
            self.assert_form_of(fold(form, 1), form.cells())

    def test_some_fold(self):
        for form in FORMS:
            for many in range(5):
                self.assert_form_of(fold(form, many), plain_picture(plain_fold(cells(form.cells()), many)))

    def test_two_fold_is_the_sum_with_itself_once(self):
        for form in FORMS:
            self.assert_form_of(fold(form, 2), Sum(form, form).cells())
            self.assert_form_of(fold(form, 3), Sum(form, Sum(form, form)).cells())

    def test_a_hundred_fold(self):
        self.assert_form_of(fold(Box(1, 0, 2, 3), 100), Box(100, 0, 200, 300).cells())
        self.assert_form_of(fold(Cross(1), 100), diamond(100))
        self.assert_form_of(fold(Cross(0), 100), ONE_CELL)
        self.assert_form_of(fold(TWO_APART, 100), ((0, tuple((2 * k, 2 * k) for k in range(101))),))
        self.assert_form_of(fold(Shape(((3, ((-5, -5),)),)), 100), ((300, ((-500, -500),)),))
        self.assert_form_of(fold(Shape(((FAR, ((-FAR, -FAR),)),)), 100), ((100 * FAR, ((-100 * FAR, -100 * FAR),)),))
        self.assert_form_of(fold(Sum(Cross(1), Box(0, 0, 1, 0)), 100),
                            Sum(Shape(diamond(100)), Box(0, 0, 100, 0)).cells())
        for many in (20, 21, 50, 99):
            self.assert_form_of(fold(Cross(1), many), diamond(many))

    def test_boxes_with_long_sides(self):
        left, right = 10 ** 50 - 1, 10 ** 49 + 7
        for many in (1, 2, 7, 100):
            self.assert_form_of(fold(Box(left, 1, right, 2), many),
                                Box(many * left, many, many * right, 2 * many).cells())
        long = fold(Box(left, 1, right, 0), 100)
        room = tuple((y, ((0, 100 * (left + right)),)) for y in range(101))
        self.assert_same_picture(long.smaller(room), ((100, ((100 * left, 100 * left),)),))
        self.assert_same_picture(long.smaller(room[1:]), ())
        self.assert_same_picture(long.opened(room), room)

    def test_high_boxes(self):
        high = fold(Box(0, 50, 0, 49), 100)
        self.assert_same_picture(high.smaller(block(3, 9902)), ((5000, ((0, 2),)), (5001, ((0, 2),))))
        self.assert_same_picture(fold(Box(0, 1000, 0, 0), 100).smaller(block(3, 9902)), ())

    def test_pictures_by_it_are_as_by_the_form_so_often(self):
        pictures = [(), ONE_CELL, BLOT, block(12, 9), block(40, 1), block(1, 40), read_drawn(["##.##", "#####"])]
        for form, picture, many in itertools.product(FORMS, pictures, range(5)):
            folded = fold(form, many)
            greater = again_and_again(form.greater, picture, many)
            smaller = again_and_again(form.smaller, picture, many)
            self.assert_same_picture(folded.greater(picture), greater)
            self.assert_same_picture(folded.smaller(picture), smaller)
            self.assert_same_picture(folded.opened(picture), again_and_again(form.greater, smaller, many))
            self.assert_same_picture(folded.closed(picture), again_and_again(form.smaller, greater, many))

    def test_many_fold_of_long_stretches(self):
        long = tuple((y, ((-FAR, FAR),)) for y in range(45))
        for form, many in [(Cross(1), 22), (Cross(1), 23), (Sum(Cross(1), TWO_APART), 20), (Box(WIDE, 0, 0, 1), 44)]:
            folded = fold(form, many)
            self.assert_same_picture(folded.smaller(long), again_and_again(form.smaller, long, many))
            self.assert_same_picture(folded.greater(long), again_and_again(form.greater, long, many))

    def test_folds_of_folds_and_in_sums(self):
        for form in FORMS:
            self.assert_form_of(fold(fold(form, 2), 2), fold(form, 4).cells())
            self.assert_form_of(Sum(fold(form, 2), form), fold(form, 3).cells())
            self.assert_form_of(fold(fold(form, 0), 5), ONE_CELL)

    def test_forms_within_one_another(self):
        deep = Cross(1)
        for again in range(20):
            deep = Sum(deep, Box(1, 0, 0, 0))
        self.assert_form_of(fold(deep, 3), Sum(Shape(diamond(3)), Box(60, 0, 0, 0)).cells())
        self.assert_form_of(fold(deep, 100), Sum(Shape(diamond(100)), Box(2000, 0, 0, 0)).cells())

    def test_the_form_stays(self):
        form = Sum(Cross(1), AWAY)
        before = form.cells()
        fold(form, 3)
        self.assert_same_picture(form.cells(), before)
        self.assert_form_of(fold(form=form, many=1), before)


class Sieve(PictureCase):
    def assert_sieve(self, told, expected):
        self.assertIs(type(told), list)
        for number in told:
            self.assertIs(type(number), int)
        self.assertEqual(told, expected)

    def test_without_cells(self):
        for form in FORMS + OF_ONE_CELL:
            for most in (0, 1, 2, 100):
                self.assert_sieve(sieve((), form, most), [0])

    def test_up_to_nought(self):
        for form in FORMS + OF_ONE_CELL:
            self.assert_sieve(sieve(ONE_CELL, form, 0), [1])
            self.assert_sieve(sieve(BLOT, form, 0), [count_cells(BLOT)])
            self.assert_sieve(sieve(((0, ((-FAR, FAR),)),), form, 0), [2 * FAR + 1])

    def test_told_ones(self):
        self.assert_sieve(sieve(block(4, 1), Box(0, 0, 1, 0), 9), [4, 4, 4, 4, 0])
        self.assert_sieve(sieve(block(4, 1), Box(0, 0, 1, 0), 4), [4, 4, 4, 4, 0])
        self.assert_sieve(sieve(block(4, 1), Box(0, 0, 1, 0), 3), [4, 4, 4, 4])
        self.assert_sieve(sieve(block(4, 1), Box(0, 0, 1, 0), 1), [4, 4])
        self.assert_sieve(sieve(block(4, 1), Box(0, 0, 0, 1), 9), [4, 0])
        self.assert_sieve(sieve(read_drawn(["####.", "#.###"]), Box(0, 0, 1, 0), 9), [8, 7, 7, 4, 0])
        self.assert_sieve(sieve(block(5, 5), Cross(1), 9), [25, 21, 13, 0])

    def test_all_small_pictures(self):
        for form in SMALL_FORMS:
            form_cells = cells(form.cells())
            for picture, some in all_small_pictures(range(4), range(2)):
                for most in (0, 1, 2, 5):
                    self.assert_sieve(sieve(picture, form, most), plain_sieve(some, form_cells, most))
        for picture, some in all_small_pictures(range(3), range(3)):
            self.assert_sieve(sieve(picture, Box(0, 0, 1, 1), 4), plain_sieve(some, cells(block(2, 2)), 4))
            self.assert_sieve(sieve(picture, Cross(1), 4), plain_sieve(some, cells(diamond(1)), 4))

    def test_it_never_rises_and_ends_behind_the_first_nought_or_the_most(self):
        for form, most in itertools.product(FORMS, (0, 1, 2, 3, 8)):
            for picture in [BLOT, block(12, 9), moved(block(30, 3), -5, 7)]:
                told = sieve(picture, form, most)
                self.assert_sieve(told, plain_sieve(cells(picture), cells(form.cells()), most))
                self.assertEqual(told, sorted(told, reverse=True))
                self.assertNotIn(0, told[:-1])
                self.assertTrue(told[-1] == 0 or len(told) == most + 1)

    def test_it_counts_what_is_opened_by_the_folds(self):
        for form in FORMS:
            told = sieve(block(20, 12), form, 6)
            self.assert_sieve(told, [count_cells(fold(form, many).opened(block(20, 12))) for many in range(len(told))])

    def test_a_form_of_one_cell_leaves_all(self):
        for form in OF_ONE_CELL:
            self.assert_sieve(sieve(BLOT, form, 3), [count_cells(BLOT)] * 4)
            self.assert_sieve(sieve(BLOT, form, 100), [count_cells(BLOT)] * 101)

    def test_wide_rectangles(self):
        self.assert_sieve(sieve(block(WIDE, 1), Box(1, 0, 1, 0), 100), [WIDE] * 101)
        self.assert_sieve(sieve(block(WIDE, 7), Box(1, 1, 1, 1), 100), [7 * WIDE] * 4 + [0])
        self.assert_sieve(sieve(block(WIDE, 7), Box(1, 1, 1, 1), 3), [7 * WIDE] * 4)
        self.assert_sieve(sieve(block(WIDE, 7), Cross(1), 100), [7 * WIDE - 2 * k * (k + 1) for k in range(4)] + [0])
        self.assert_sieve(sieve(block(WIDE, 3), Box(WIDE // 10 - 1, 0, 0, 0), 100), [3 * WIDE] * 11 + [0])
        self.assert_sieve(sieve(block(WIDE, 3), Box(WIDE // 10, 0, 0, 0), 100), [3 * WIDE] * 10 + [0])
        self.assert_sieve(sieve(moved(block(WIDE, 41), FAR, -FAR), Cross(1), 6),
                          [41 * WIDE - 2 * k * (k + 1) for k in range(7)])

    def test_up_to_a_hundred(self):
        self.assert_sieve(sieve(block(101, 1), Box(0, 0, 1, 0), 100), [101] * 101)
        self.assert_sieve(sieve(block(100, 1), Box(0, 0, 1, 0), 100), [100] * 100 + [0])
        self.assert_sieve(sieve(diamond(40), Cross(1), 100), [count_cells(diamond(40))] * 41 + [0])

    def test_many_stretches(self):
        many = picture_of([(y, 6 * x, 6 * x + x % 4) for x in range(100) for y in range(100)])
        self.assert_sieve(sieve(many, Box(0, 0, 1, 0), 9), [25000, 22500, 17500, 10000, 0])

    def test_the_list_is_the_askers_own(self):
        first = sieve(block(4, 1), Box(0, 0, 1, 0), 2)
        first.append("changed")
        first[0] = "changed"
        self.assert_sieve(sieve(block(4, 1), Box(0, 0, 1, 0), 2), [4, 4, 4])
        self.assert_sieve(sieve(picture=block(4, 1), form=Box(0, 0, 1, 0), most=1), [4, 4])


class Cores(PictureCase):
    def assert_cores(self, told, expected):
        self.assertIs(type(told), list)
        for core in told:
            self.assert_picture(core)
        self.assertEqual(told, expected)

    def test_without_cells(self):
        for form in FORMS:
            for most in (0, 1, 100):
                self.assert_cores(cores((), form, most), [])

    def test_told_ones(self):
        self.assert_cores(cores(ONE_CELL, Cross(1), 1), [ONE_CELL])
        self.assert_cores(cores(block(4, 1), Box(0, 0, 1, 0), 9), [(), (), (), ONE_CELL])
        self.assert_cores(cores(block(5, 3), Box(1, 1, 1, 1), 9), [(), ((1, ((1, 3),)),)])
        corners = read_drawn(["#.#", "...", "#.#"])
        self.assert_cores(cores(block(3, 3), Cross(1), 9), [corners, ((1, ((1, 1),)),)])
        self.assert_cores(cores(block(5, 1), Box(0, 0, 0, 1), 9), [block(5, 1)])

    def test_all_small_pictures(self):
        for form in SMALL_FORMS:
            form_cells = cells(form.cells())
            for picture, some in all_small_pictures(range(3), range(3)):
                expected = plain_cores(some, form_cells)
                self.assert_cores(cores(picture, form, 100), expected)
                self.assert_cores(cores(picture, form, len(expected)), expected)
                if some:
                    self.assert_refused(TooMany, cores, picture, form, len(expected) - 1)
        for picture, some in all_small_pictures(range(4), range(3)):
            self.assert_cores(cores(picture, Box(0, 0, 1, 0), 4), plain_cores(some, {(0, 0), (1, 0)}))
            self.assert_cores(cores(picture, Cross(1), 2), plain_cores(some, cells(diamond(1))))

    def test_greater_pictures(self):
        for form in FORMS:
            for picture in [BLOT, block(12, 9), block(30, 2), moved(BLOT, -40, 99)]:
                self.assert_cores(cores(picture, form, 100), plain_cores(cells(picture), cells(form.cells())))

    def test_the_last_core_is_all_that_is_left(self):
        for form in FORMS:
            told = cores(block(20, 15), form, 100)
            self.assertNotEqual(told[-1], ())
            self.assert_same_picture(told[-1], fold(form, len(told) - 1).smaller(block(20, 15)))

    def test_a_form_of_one_cell(self):
        for form in OF_ONE_CELL:
            for picture in [(), ONE_CELL, BLOT, ((0, ((-FAR, FAR),)),)]:
                for most in (0, 1, 2, 100):
                    self.assert_refused(NoForm, cores, picture, form, most)
        for form in FORMS:
            self.assert_refused(NoForm, cores, BLOT, fold(form, 0), 0)
        self.assert_refused(NoForm, cores, (), fold(Cross(0), 100), 0)

    def test_a_form_of_two_cells_is_none_of_one(self):
        for form in [Box(1, 0, 0, 0), Box(0, 1, 0, 0), Box(0, 0, 1, 0), Box(0, 0, 0, 1), TWO_APART,
                     Shape(((FAR, ((0, 0), (FAR, FAR))),)), Shape(((-FAR, ((3, 3),)), (FAR, ((3, 3),)))),
                     Sum(Cross(0), Box(1, 0, 0, 0)), Sum(Box(0, 1, 0, 0), Cross(0)),
                     Sum(TWO_APART, Shape(((0, ((-1, -1),)),)))]:
            self.assertEqual(count_cells(form.cells()), 2)
            self.assert_cores(cores((), form, 0), [])
            self.assert_cores(cores(ONE_CELL, form, 1), [ONE_CELL])

    def test_most(self):
        self.assert_refused(TooMany, cores, ONE_CELL, Cross(1), 0)
        self.assert_cores(cores(block(41, 1), Box(1, 0, 1, 0), 21), [()] * 20 + [((0, ((20, 20),)),)])
        self.assert_refused(TooMany, cores, block(41, 1), Box(1, 0, 1, 0), 20)
        self.assert_refused(TooMany, cores, block(41, 1), Box(1, 0, 1, 0), 0)
        self.assert_cores(cores(block(100, 1), Box(0, 0, 1, 0), 100), [()] * 99 + [ONE_CELL])
        self.assert_refused(TooMany, cores, block(101, 1), Box(0, 0, 1, 0), 100)
        self.assert_refused(TooMany, cores, block(WIDE, 1), Box(0, 0, 1, 0), 100)

    def test_told_again_behind_a_refusal(self):
        expected = cores(BLOT, Cross(1), 100)
        self.assert_refused(TooMany, cores, BLOT, Cross(1), len(expected) - 1)
        self.assert_refused(NoForm, cores, BLOT, Cross(0), len(expected))
        self.assert_cores(cores(BLOT, Cross(1), len(expected)), expected)

    def test_far_out(self):
        for form in FORMS:
            told = cores(BLOT, form, 100)
            for dx, dy in [(FAR, -FAR), (-FAR, FAR), (10 ** 99, 10 ** 99)]:
                self.assert_cores(cores(moved(BLOT, dx, dy), form, 100), [moved(core, dx, dy) for core in told])

    def test_long_stretches(self):
        ends = tuple((y, ((0, 0), (WIDE - 1, WIDE - 1))) for y in (0, 4))
        rows = [(ends[0], ends[1]), ((1, ((1, 1), (WIDE - 2, WIDE - 2))), (3, ((1, 1), (WIDE - 2, WIDE - 2)))),
                ((2, ((2, WIDE - 3),)),)]
        self.assert_cores(cores(block(WIDE, 5), Cross(1), 3), rows)
        self.assert_refused(TooMany, cores, block(WIDE, 5), Cross(1), 2)
        third = WIDE // 3
        self.assert_cores(cores(block(WIDE, 1), Box(third, 0, third, 0), 9), [(), ((0, ((third, WIDE - 1 - third),)),)])
        self.assert_cores(cores(block(WIDE, 2), Box(0, 0, WIDE - 1, 1), 2), [(), ONE_CELL])
        self.assert_cores(cores(block(WIDE, 2), Box(0, 0, WIDE, 1), 1), [block(WIDE, 2)])

    def test_many_stretches(self):
        many = picture_of([(y, 6 * x, 6 * x + x % 4) for x in range(100) for y in range(100)])
        told = cores(many, Box(0, 0, 1, 0), 4)
        self.assertEqual([count_cells(core) for core in told], [2500] * 4)
        self.assert_same_picture(joined_cores(told, Box(0, 0, 1, 0)), many)

    def test_the_list_is_the_askers_own(self):
        told = cores(block(3, 3), Cross(1), 9)
        before = list(told)
        told.append("changed")
        told[0] = "changed"
        self.assert_cores(cores(picture=block(3, 3), form=Cross(1), most=9), before)
        nothing = cores((), Cross(1), 9)
        nothing.append("changed")
        self.assert_cores(cores((), Cross(1), 9), [])


class JoinedCores(PictureCase):
    def test_of_no_picture(self):
        for form in FORMS + OF_ONE_CELL:
            self.assert_same_picture(joined_cores([], form), ())
            self.assert_same_picture(joined_cores([()], form), ())
            self.assert_same_picture(joined_cores([(), (), ()], form), ())

    def test_each_is_made_greater_so_often_as_its_place(self):
        for form in FORMS + OF_ONE_CELL:
            for place in range(4):
                expected = again_and_again(form.greater, BLOT, place)
                self.assert_same_picture(joined_cores([()] * place + [BLOT], form), expected)
                self.assert_same_picture(joined_cores([()] * place + [BLOT, (), ()], form), expected)

    def test_all_are_joined(self):
        some = [BLOT, ONE_CELL, block(2, 3), moved(ONE_CELL, 40, -40), ()]
        for form in FORMS + OF_ONE_CELL:
            for many in range(len(some) + 1):
                expected = ()
                for place, picture in enumerate(some[:many]):
                    expected = join(expected, fold(form, place).greater(picture))
                self.assert_same_picture(joined_cores(some[:many], form), expected)

    def test_the_cores_of_small_pictures_are_the_picture(self):
        for form in SMALL_FORMS:
            for picture, some in all_small_pictures(range(3), range(3)):
                self.assert_same_picture(joined_cores(cores(picture, form, 9), form), picture)

    def test_the_cores_of_greater_pictures_are_the_picture(self):
        for form in FORMS:
            for picture in [BLOT, block(25, 20), moved(BLOT, FAR, -FAR)] + list(patches(15, 15, 5, (0.9,))):
                self.assert_same_picture(joined_cores(cores(picture, form, 100), form), picture)
        for form in [Box(0, 0, 0, 1), Box(1, 1, 1, 1), Box(WIDE // 7, 0, 0, 0), Cross(1), Cross(2), AWAY,
                     Sum(Cross(1), AWAY)]:
            self.assert_same_picture(joined_cores(cores(block(WIDE, 9), form, 9), form), block(WIDE, 9))

    def test_far_out_and_long(self):
        self.assert_same_picture(joined_cores([(), ((FAR, ((-FAR, FAR),)),)], Box(FAR, 0, FAR, 1)),
                                 ((FAR, ((-2 * FAR, 2 * FAR),)), (FAR + 1, ((-2 * FAR, 2 * FAR),))))
        self.assert_same_picture(joined_cores([()] * 99 + [ONE_CELL], Cross(1)), diamond(99))
        self.assert_same_picture(joined_cores([ONE_CELL] * 100, Shape(((FAR, ((1, 1),)),))),
                                 tuple((k * FAR, ((k, k),)) for k in range(100)))

    def test_the_list_handed_in_stays(self):
        some = [ONE_CELL, BLOT, ()]
        told = joined_cores(some=some, form=Cross(1))
        self.assertEqual(some, [ONE_CELL, BLOT, ()])
        some.clear()
        self.assert_same_picture(told, join(ONE_CELL, Cross(1).greater(BLOT)))


if __name__ == "__main__":
    unittest.main()
