import itertools
import unittest

from helper import FAR, PictureCase, all_small_pictures, plain_picture
from shapethin.errors import TooGreat
from shapethin.pictures import (box_of, cells_of, common, count_cells, either, has_cell, join, less, lies_in, mirrored,
                                moved, picture_of, stretches_of, turned, turned_about)

CORNER = ((-1, ((0, 2), (4, 4))), (3, ((-5, -5),)))
LONG = ((-FAR, ((-FAR, 7),)), (FAR, ((0, 0), (2, FAR))))
SAMPLES = [(), ((0, ((0, 0),)),), CORNER, LONG]


class PictureOf(PictureCase):
    def test_of_none_at_all(self):
        self.assert_same_picture(picture_of([]), ())

    def test_in_any_order(self):
        for triples in itertools.permutations([(3, -5, -5), (-1, 4, 4), (-1, 0, 1), (-1, 2, 2)]):
            self.assert_same_picture(picture_of(list(triples)), CORNER)

    def test_overlapping_and_meeting(self):
        self.assert_same_picture(picture_of([(0, 3, 8), (0, 1, 4)]), ((0, ((1, 8),)),))
        self.assert_same_picture(picture_of([(0, 5, 8), (0, 1, 4)]), ((0, ((1, 8),)),))
        self.assert_same_picture(picture_of([(0, 6, 8), (0, 1, 4)]), ((0, ((1, 4), (6, 8))),))

    def test_rows_do_not_run_into_one_another(self):
        self.assert_same_picture(picture_of([(1, 3, 8), (0, 1, 4)]), ((0, ((1, 4),)), (1, ((3, 8),))))

    def test_first_greater_than_second_has_no_cell(self):
        self.assert_same_picture(picture_of([(2, 1, 0)]), ())
        self.assert_same_picture(picture_of([(2, FAR, -FAR), (7, 1, 0)]), ())
        self.assert_same_picture(picture_of([(2, 1, 0), (3, 1, 1), (4, 9, 2)]), ((3, ((1, 1),)),))
        self.assert_same_picture(picture_of([(3, 4, 3), (3, 1, 3), (3, 5, 6)]), ((3, ((1, 3), (5, 6))),))

    def test_sixty_figures(self):
        self.assert_same_picture(picture_of([(FAR, 2, FAR), (-FAR, -FAR, 7), (FAR, 0, 0)]), LONG)

    def test_the_list_handed_in_stays_and_is_not_kept(self):
        triples = [(3, -5, -5), (-1, 4, 4), (9, 1, 0), (-1, 0, 2)]
        picture = picture_of(triples)
        self.assertEqual(triples, [(3, -5, -5), (-1, 4, 4), (9, 1, 0), (-1, 0, 2)])
        triples.clear()
        self.assert_same_picture(picture, CORNER)

    def test_told_alike_just_where_the_cells_are_the_same(self):
        told = {}
        for expected, some in all_small_pictures(range(-1, 2), range(-1, 2)):
            by_cells = picture_of([(y, x, x) for x, y in sorted(some, reverse=True)])
            by_parts = picture_of([(y, x, x + 1) for x, y in some if (x + 1, y) in some]
                                  + [(y, x, x) for x, y in some] + [(0, 1, 0)])
            self.assert_same_picture(by_cells, expected)
            self.assert_same_picture(by_parts, expected)
            told[by_cells] = some
        self.assertEqual(len(told), 512)

    def test_ten_thousand_triples(self):
        prime = 2 ** 61 - 1
        triples = [(prime * (k // 2), 3 * (k % 2), 3 * (k % 2) + 1) for k in range(10000)]
        picture = picture_of(triples[::-1])
        self.assert_picture(picture)
        self.assertEqual(stretches_of(picture), triples)


class StretchesOf(PictureCase):
    def test_as_they_stand(self):
        self.assertEqual(stretches_of(()), [])
        self.assertEqual(stretches_of(CORNER), [(-1, 0, 2), (-1, 4, 4), (3, -5, -5)])
        self.assertEqual(stretches_of(LONG), [(-FAR, -FAR, 7), (FAR, 0, 0), (FAR, 2, FAR)])

    def test_a_list_of_triples(self):
        told = stretches_of(CORNER)
        self.assertIs(type(told), list)
        for triple in told:
            self.assertIs(type(triple), tuple)
            self.assertEqual(len(triple), 3)

    def test_a_new_list_each_time(self):
        told = stretches_of(CORNER)
        told.clear()
        self.assertEqual(stretches_of(CORNER), [(-1, 0, 2), (-1, 4, 4), (3, -5, -5)])
        self.assertIsNot(stretches_of(()), stretches_of(()))

    def test_makes_the_picture_again(self):
        for picture in SAMPLES:
            self.assert_same_picture(picture_of(stretches_of(picture)), picture)
        for picture, some in all_small_pictures(range(3), range(-1, 2)):
            self.assert_same_picture(picture_of(stretches_of(picture)), picture)


class HasCell(PictureCase):
    def test_ends_and_beside_them(self):
        for x, y in [(0, -1), (1, -1), (2, -1), (4, -1), (-5, 3)]:
            self.assertIs(has_cell(CORNER, x, y), True)
        for x, y in [(-1, -1), (3, -1), (5, -1), (0, -2), (0, 0), (-5, 2), (-6, 3), (-4, 3), (-5, 4), (3, -5)]:
            self.assertIs(has_cell(CORNER, x, y), False)

    def test_without_cells(self):
        for x, y in [(0, 0), (FAR, FAR), (-FAR, -FAR)]:
            self.assertIs(has_cell((), x, y), False)

    def test_far_out(self):
        for x, y in [(-FAR, -FAR), (7, -FAR), (0, FAR), (2, FAR), (FAR // 3, FAR), (FAR, FAR)]:
            self.assertIs(has_cell(LONG, x, y), True)
        for x, y in [(8, -FAR), (0, 0), (1, FAR), (FAR, 1 - FAR), (FAR, FAR - 1)]:
            self.assertIs(has_cell(LONG, x, y), False)

    def test_every_small_picture(self):
        for picture, some in all_small_pictures(range(-1, 2), range(2)):
            for x, y in itertools.product(range(-3, 4), repeat=2):
                self.assertIs(has_cell(picture, x, y), (x, y) in some)


class TwoPictures(PictureCase):
    def assert_all(self, one, other, joined, shared, first_alone, just_one, within):
        self.assert_same_picture(join(one, other), joined)
        self.assert_same_picture(common(one, other), shared)
        self.assert_same_picture(less(one, other), first_alone)
        self.assert_same_picture(either(one, other), just_one)
        self.assertIs(lies_in(one, other), within)

    def test_equal(self):
        for picture in SAMPLES:
            self.assert_all(picture, picture, picture, picture, (), (), True)

    def test_without_cells_on_either_side(self):
        for picture in SAMPLES[1:]:
            self.assert_all(picture, (), picture, (), picture, picture, False)
            self.assert_all((), picture, picture, (), (), picture, True)

    def test_rows_shared_and_rows_of_their_own(self):
        one = ((0, ((0, 3),)), (2, ((5, 6),)))
        other = ((-4, ((1, 1),)), (0, ((2, 5),)), (7, ((0, 0),)))
        self.assert_all(
            one, other,
            ((-4, ((1, 1),)), (0, ((0, 5),)), (2, ((5, 6),)), (7, ((0, 0),))),
            ((0, ((2, 3),)),),
            ((0, ((0, 1),)), (2, ((5, 6),))),
            ((-4, ((1, 1),)), (0, ((0, 1), (4, 5))), (2, ((5, 6),)), (7, ((0, 0),))),
            False)

    def test_a_shared_row_without_a_shared_cell(self):
        one = ((0, ((0, 1),)),)
        other = ((0, ((2, 3),)),)
        joined = ((0, ((0, 3),)),)
        self.assert_all(one, other, joined, (), one, joined, False)

    def test_within(self):
        part = ((-1, ((1, 2),)), (3, ((-5, -5),)))
        rest = ((-1, ((0, 0), (4, 4))),)
        self.assert_all(part, CORNER, CORNER, part, (), rest, True)
        self.assert_all(CORNER, part, CORNER, part, rest, rest, False)

    def test_far_out(self):
        other = ((FAR, ((1, 4),)),)
        self.assert_all(
            LONG, other,
            ((-FAR, ((-FAR, 7),)), (FAR, ((0, FAR),))),
            ((FAR, ((2, 4),)),),
            ((-FAR, ((-FAR, 7),)), (FAR, ((0, 0), (5, FAR)))),
            ((-FAR, ((-FAR, 7),)), (FAR, ((0, 1), (5, FAR)))),
            False)

    def test_every_two_small_pictures(self):
        small = list(all_small_pictures(range(-1, 2), range(2)))
        for (one, some), (other, more) in itertools.product(small, repeat=2):
            self.assert_all(one, other, plain_picture(some | more), plain_picture(some & more),
                            plain_picture(some - more), plain_picture(some ^ more), some <= more)


class CountAndBox(PictureCase):
    def test_count(self):
        self.assertEqual(count_cells(()), 0)
        self.assertEqual(count_cells(CORNER), 5)
        self.assertEqual(count_cells(LONG), (FAR + 8) + 1 + (FAR - 1))

    def test_box(self):
        self.assertIsNone(box_of(()))
        self.assertEqual(box_of(CORNER), (-5, -1, 4, 3))
        self.assertEqual(box_of(LONG), (-FAR, -FAR, FAR, FAR))
        self.assertEqual(box_of(((7, ((2, 2),)),)), (2, 7, 2, 7))
        self.assertIs(type(box_of(CORNER)), tuple)

    def test_every_small_picture(self):
        for picture, some in all_small_pictures(range(-1, 2), range(-1, 2)):
            self.assertEqual(count_cells(picture), len(some))
            if some:
                columns = [x for x, y in some]
                rows = [y for x, y in some]
                self.assertEqual(box_of(picture), (min(columns), min(rows), max(columns), max(rows)))


class Placed(PictureCase):
    def test_moved(self):
        self.assert_same_picture(moved(CORNER, 10, -2), ((-3, ((10, 12), (14, 14))), (1, ((5, 5),))))
        self.assert_same_picture(moved(CORNER, 0, 0), CORNER)
        self.assert_same_picture(moved((), 3, 4), ())
        self.assert_same_picture(moved(LONG, FAR, -1), ((-FAR - 1, ((0, FAR + 7),)),
                                                        (FAR - 1, ((FAR, FAR), (FAR + 2, 2 * FAR)))))
        self.assert_same_picture(moved(moved(LONG, -FAR, FAR), FAR, -FAR), LONG)

    def test_turned_about(self):
        self.assert_same_picture(turned_about(CORNER), ((-3, ((5, 5),)), (1, ((-4, -4), (-2, 0)))))
        self.assert_same_picture(turned_about(LONG), ((-FAR, ((-FAR, -2), (0, 0))), (FAR, ((-7, FAR),))))

    def test_mirrored(self):
        self.assert_same_picture(mirrored(CORNER), ((-1, ((-4, -4), (-2, 0))), (3, ((5, 5),))))
        self.assert_same_picture(mirrored(LONG), ((-FAR, ((-7, FAR),)), (FAR, ((-FAR, -2), (0, 0)))))

    def test_turned(self):
        self.assert_same_picture(turned(((0, ((1, 3),)),)), ((1, ((0, 0),)), (2, ((0, 0),)), (3, ((0, 0),))))
        self.assert_same_picture(turned(((1, ((0, 0),)),)), ((0, ((-1, -1),)),))
        self.assert_same_picture(turned(((FAR, ((-FAR, -FAR),)),)), ((-FAR, ((-FAR, -FAR),)),))
        self.assert_same_picture(turned(CORNER), ((-5, ((-3, -3),)), (0, ((1, 1),)), (1, ((1, 1),)),
                                                  (2, ((1, 1),)), (4, ((1, 1),))))

    def test_done_again_it_is_the_picture_itself(self):
        for picture in SAMPLES:
            self.assert_same_picture(turned_about(turned_about(picture)), picture)
            self.assert_same_picture(mirrored(mirrored(picture)), picture)
        far_cells = picture_of([(FAR, -FAR, 3 - FAR), (-FAR, FAR, FAR)])
        for picture in SAMPLES[:3] + [far_cells]:
            self.assert_same_picture(turned(turned(turned(turned(picture)))), picture)

    def test_every_small_picture(self):
        for picture, some in all_small_pictures(range(-1, 2), range(3)):
            self.assert_same_picture(moved(picture, 2, -5), plain_picture({(x + 2, y - 5) for x, y in some}))
            self.assert_same_picture(turned_about(picture), plain_picture({(-x, -y) for x, y in some}))
            self.assert_same_picture(mirrored(picture), plain_picture({(-x, y) for x, y in some}))
            self.assert_same_picture(turned(picture), plain_picture({(-y, x) for x, y in some}))


class CellByCell(PictureCase):
    def assert_too_great(self, picture):
        for ask in (cells_of, turned):
            self.assert_refused(TooGreat, ask, picture)

    def test_cells_in_order(self):
        self.assertEqual(cells_of(()), [])
        self.assertEqual(cells_of(CORNER), [(0, -1), (1, -1), (2, -1), (4, -1), (-5, 3)])
        self.assertEqual(cells_of(((FAR, ((-FAR, 2 - FAR),)),)), [(-FAR, FAR), (1 - FAR, FAR), (2 - FAR, FAR)])
        for picture, some in all_small_pictures(range(-1, 2), range(-1, 2)):
            self.assertEqual(cells_of(picture), sorted(some, key=lambda cell: (cell[1], cell[0])))

    def test_a_new_list_of_pairs_each_time(self):
        told = cells_of(CORNER)
        self.assertIs(type(told), list)
        for cell in told:
            self.assertIs(type(cell), tuple)
        told.clear()
        self.assertEqual(len(cells_of(CORNER)), 5)
        self.assertIsNot(cells_of(()), cells_of(()))

    def test_up_to_a_thousand_cells(self):
        for many in (999, 1000):
            stretch = ((5, ((1, many),)),)
            self.assertEqual(cells_of(stretch), [(x, 5) for x in range(1, many + 1)])
            self.assert_same_picture(turned(stretch), tuple((x, ((-5, -5),)) for x in range(1, many + 1)))
            column = tuple((y, ((5, 5),)) for y in range(1, many + 1))
            self.assertEqual(cells_of(column), [(5, y) for y in range(1, many + 1)])
            self.assert_same_picture(turned(column), ((5, ((-many, -1),)),))

    def test_above_a_thousand_cells(self):
        self.assert_too_great(((5, ((1, 1001),)),))
        self.assert_too_great(tuple((y, ((5, 5),)) for y in range(1, 1002)))
        self.assert_too_great(((0, ((1, 500), (502, 1001))), (9, ((0, 0),))))

    def test_a_stretch_of_ten_to_the_fiftieth_cells(self):
        self.assert_too_great(((0, ((1, 10 ** 50),)),))
        self.assert_too_great(((0, ((0, 0),)), (1, ((-(10 ** 50), -1),))))

    def test_what_is_refused_changes_nothing(self):
        picture = ((5, ((1, 1001),)),)
        self.assert_too_great(picture)
        self.assertEqual(picture, ((5, ((1, 1001),)),))
        self.assertEqual(len(cells_of(((5, ((1, 1000),)),))), 1000)


if __name__ == "__main__":
    unittest.main()
