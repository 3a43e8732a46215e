import itertools
import unittest

from shapethin.rows import (row_common, row_count, row_either, row_gaps, row_has, row_join, row_less, row_moved,
                            row_of, row_shrunk, row_spread)

FAR = 10 ** 60 - 1  # the greatest number of sixty figures


def cells(row):
    return {x for a, b in row for x in range(a, b + 1)}


def plain_row(some):
    """The row of a set of cells, made cell by cell."""
    stretches = []
    for x in sorted(some):
        if stretches and stretches[-1][1] == x - 1:
            stretches[-1] = (stretches[-1][0], x)
        else:
            stretches.append((x, x))
    return tuple(stretches)


def all_small_rows():
    """Every row with cells from -3 to 3 alone, with its cells."""
    for bits in itertools.product((False, True), repeat=7):
        some = {x for x, is_in in zip(range(-3, 4), bits) if is_in}
        yield plain_row(some), some


class RowCase(unittest.TestCase):
    def assert_row(self, row):
        self.assertIs(type(row), tuple)
        for stretch in row:
            self.assertIs(type(stretch), tuple)
            self.assertEqual(len(stretch), 2)
            self.assertLessEqual(stretch[0], stretch[1])
        for ahead, behind in zip(row, row[1:]):
            self.assertGreaterEqual(behind[0], ahead[1] + 2)

    def assert_same_row(self, row, expected):
        self.assert_row(row)
        self.assertEqual(row, expected)


class RowOf(RowCase):
    def test_of_none_at_all(self):
        self.assert_same_row(row_of([]), ())

    def test_in_any_order(self):
        for pairs in itertools.permutations([(-9, -7), (0, 0), (2, 4), (8, 9)]):
            self.assert_same_row(row_of(list(pairs)), ((-9, -7), (0, 0), (2, 4), (8, 9)))

    def test_overlapping(self):
        self.assert_same_row(row_of([(3, 8), (1, 4)]), ((1, 8),))
        self.assert_same_row(row_of([(1, 9), (3, 4), (8, 9), (1, 2)]), ((1, 9),))
        self.assert_same_row(row_of([(1, 9), (3, 4), (6, 12)]), ((1, 12),))
        self.assert_same_row(row_of([(2, 5), (2, 5)]), ((2, 5),))

    def test_meeting(self):
        self.assert_same_row(row_of([(4, 6), (1, 3)]), ((1, 6),))
        self.assert_same_row(row_of([(-2, -1), (0, 1)]), ((-2, 1),))
        self.assert_same_row(row_of([(2, 2), (0, 0), (1, 1)]), ((0, 2),))

    def test_one_cell_left_out_parts_two_stretches(self):
        self.assert_same_row(row_of([(1, 3), (5, 6)]), ((1, 3), (5, 6)))
        self.assert_same_row(row_of([(1, 1), (-1, -1)]), ((-1, -1), (1, 1)))

    def test_first_greater_than_second_has_no_cell(self):
        self.assert_same_row(row_of([(1, 0)]), ())
        self.assert_same_row(row_of([(5, -5), (FAR, -FAR)]), ())
        self.assert_same_row(row_of([(1, 3), (4, 3), (5, 7)]), ((1, 3), (5, 7)))
        self.assert_same_row(row_of([(9, 2), (3, 4)]), ((3, 4),))

    def test_sixty_figures(self):
        self.assert_same_row(row_of([(1, FAR), (-FAR, 0)]), ((-FAR, FAR),))
        self.assert_same_row(row_of([(1, FAR), (-FAR, -1)]), ((-FAR, -1), (1, FAR)))
        self.assert_same_row(row_of([(FAR, FAR), (FAR - 2, FAR - 2)]), ((FAR - 2, FAR - 2), (FAR, FAR)))
        self.assert_same_row(row_of([(FAR, FAR), (FAR - 1, FAR - 1)]), ((FAR - 1, FAR),))
        self.assert_same_row(row_of([(-FAR, -FAR), (1 - FAR, 5 - FAR)]), ((-FAR, 5 - FAR),))

    def test_the_list_handed_in_stays_and_is_not_kept(self):
        pairs = [(7, 9), (1, 3), (4, 2), (2, 5)]
        row = row_of(pairs)
        self.assertEqual(pairs, [(7, 9), (1, 3), (4, 2), (2, 5)])
        pairs.clear()
        self.assert_same_row(row, ((1, 5), (7, 9)))

    def test_every_two_small_pairs(self):
        ends = range(-2, 4)
        pairs = [(a, b) for a in ends for b in ends]
        for one, other in itertools.product(pairs, repeat=2):
            expected = plain_row(cells([one, other]))
            self.assert_same_row(row_of([one, other]), expected)

    def test_of_its_own_stretches_is_the_row_itself(self):
        for row, some in all_small_rows():
            self.assert_same_row(row_of(list(row)), row)
            self.assert_same_row(row_of(list(row) + list(row)), row)

    def test_of_single_cells_is_the_same_row(self):
        for row, some in all_small_rows():
            self.assert_same_row(row_of([(x, x) for x in sorted(some, reverse=True)]), row)

    def test_ten_thousand_pairs(self):
        apart = [(3 * k, 3 * k + 1) for k in range(10000)]
        self.assert_same_row(row_of(apart[::-1]), tuple(apart))
        meeting = [(2 * k, 2 * k + 1) for k in range(10000)]
        self.assert_same_row(row_of(meeting[::-1]), ((0, 19999),))


class RowHas(RowCase):
    def test_ends_and_beside_them(self):
        row = ((-5, -3), (0, 0), (4, FAR))
        for x in (-5, -4, -3, 0, 4, 5, FAR // 2, FAR - 1, FAR):
            self.assertIs(row_has(row, x), True, x)
        for x in (-FAR, -6, -2, -1, 1, 2, 3, FAR + 1):
            self.assertIs(row_has(row, x), False, x)

    def test_row_without_cells(self):
        for x in (-FAR, -1, 0, 1, FAR):
            self.assertIs(row_has((), x), False)

    def test_every_small_row(self):
        for row, some in all_small_rows():
            for x in range(-6, 7):
                self.assertIs(row_has(row, x), x in some)

    def test_many_stretches(self):
        row = tuple((3 * k, 3 * k + 1) for k in range(10000))
        for x in (0, 1, 14999, 15000, 15001, 29997, 29998):
            self.assertIs(row_has(row, x), x % 3 != 2)
        self.assertIs(row_has(row, -1), False)
        self.assertIs(row_has(row, 29999), False)


class TwoRows(RowCase):
    def assert_all_four(self, one, other, joined, shared, first_alone, just_one):
        self.assert_same_row(row_join(one, other), joined)
        self.assert_same_row(row_common(one, other), shared)
        self.assert_same_row(row_less(one, other), first_alone)
        self.assert_same_row(row_either(one, other), just_one)

    def test_equal(self):
        row = ((-4, -2), (0, 3))
        self.assert_all_four(row, row, row, row, (), ())

    def test_apart(self):
        self.assert_all_four(((1, 2),), ((5, 6),), ((1, 2), (5, 6)), (), ((1, 2),), ((1, 2), (5, 6)))

    def test_meeting(self):
        self.assert_all_four(((1, 2),), ((3, 6),), ((1, 6),), (), ((1, 2),), ((1, 6),))
        self.assert_all_four(((3, 6),), ((1, 2),), ((1, 6),), (), ((3, 6),), ((1, 6),))

    def test_overlapping(self):
        self.assert_all_four(((1, 5),), ((4, 8),), ((1, 8),), ((4, 5),), ((1, 3),), ((1, 3), (6, 8)))
        self.assert_all_four(((4, 8),), ((1, 5),), ((1, 8),), ((4, 5),), ((6, 8),), ((1, 3), (6, 8)))

    def test_within(self):
        self.assert_all_four(((1, 9),), ((4, 5),), ((1, 9),), ((4, 5),), ((1, 3), (6, 9)), ((1, 3), (6, 9)))
        self.assert_all_four(((4, 5),), ((1, 9),), ((1, 9),), ((4, 5),), (), ((1, 3), (6, 9)))
        self.assert_all_four(((1, 9),), ((1, 5),), ((1, 9),), ((1, 5),), ((6, 9),), ((6, 9),))
        self.assert_all_four(((1, 9),), ((5, 9),), ((1, 9),), ((5, 9),), ((1, 4),), ((1, 4),))

    def test_without_cells_on_either_side(self):
        row = ((-4, -2), (0, 3))
        self.assert_all_four(row, (), row, (), row, row)
        self.assert_all_four((), row, row, (), (), row)
        self.assert_all_four((), (), (), (), (), ())

    def test_far_out(self):
        one = ((-FAR, 0), (7, FAR))
        other = ((-3, 9),)
        self.assert_all_four(one, other, ((-FAR, FAR),), ((-3, 0), (7, 9)),
                             ((-FAR, -4), (10, FAR)), ((-FAR, -4), (1, 6), (10, FAR)))

    def test_every_two_small_rows(self):
        small = list(all_small_rows())
        for (one, some), (other, more) in itertools.product(small, repeat=2):
            self.assert_all_four(one, other, plain_row(some | more), plain_row(some & more),
                                 plain_row(some - more), plain_row(some ^ more))

    def test_many_stretches(self):
        one = tuple((4 * k, 4 * k + 2) for k in range(5000))
        other = tuple((4 * k + 2, 4 * k + 4) for k in range(5000))
        self.assert_all_four(one, other, ((0, 20000),), plain_row(cells(one) & cells(other)),
                             plain_row(cells(one) - cells(other)), plain_row(cells(one) ^ cells(other)))


class RowCount(RowCase):
    def test_counts(self):
        self.assertEqual(row_count(()), 0)
        self.assertEqual(row_count(((4, 4),)), 1)
        self.assertEqual(row_count(((-2, 3), (5, 6))), 8)
        self.assertEqual(row_count(((-FAR, FAR),)), 2 * FAR + 1)

    def test_every_small_row(self):
        for row, some in all_small_rows():
            self.assertEqual(row_count(row), len(some))


class RowMoved(RowCase):
    def test_above_below_and_equal_to_nought(self):
        row = ((-4, -2), (0, 3))
        self.assert_same_row(row_moved(row, 5), ((1, 3), (5, 8)))
        self.assert_same_row(row_moved(row, -5), ((-9, -7), (-5, -2)))
        self.assert_same_row(row_moved(row, 0), row)
        self.assert_same_row(row_moved((), 7), ())

    def test_far_out(self):
        self.assert_same_row(row_moved(((-1, 1), (3, FAR)), FAR), ((FAR - 1, FAR + 1), (FAR + 3, 2 * FAR)))

    def test_every_small_row(self):
        for row, some in all_small_rows():
            for by in range(-3, 4):
                self.assert_same_row(row_moved(row, by), plain_row({x + by for x in some}))


class SpreadAndShrunk(RowCase):
    def test_spread(self):
        row = ((0, 2), (10, 12))
        self.assert_same_row(row_spread(row, -3, -1), ((-3, 1), (7, 11)))
        self.assert_same_row(row_spread(row, 1, 3), ((1, 5), (11, 15)))
        self.assert_same_row(row_spread(row, -2, 3), ((-2, 5), (8, 15)))
        self.assert_same_row(row_spread(row, 4, 4), ((4, 6), (14, 16)))
        self.assert_same_row(row_spread(row, -4, -4), ((-4, -2), (6, 8)))
        self.assert_same_row(row_spread(row, 0, 0), row)
        self.assert_same_row(row_spread((), -1, 1), ())

    def test_spreading_makes_stretches_meet(self):
        row = ((0, 2), (10, 12))
        self.assert_same_row(row_spread(row, -3, 3), ((-3, 5), (7, 15)))
        self.assert_same_row(row_spread(row, -3, 4), ((-3, 16),))
        self.assert_same_row(row_spread(row, 0, 7), ((0, 19),))
        self.assert_same_row(row_spread(row, -9, 9), ((-9, 21),))

    def test_shrunk(self):
        row = ((0, 5), (10, 12))
        self.assert_same_row(row_shrunk(row, -3, -1), ((3, 6), (13, 13)))
        self.assert_same_row(row_shrunk(row, 1, 3), ((-1, 2), (9, 9)))
        self.assert_same_row(row_shrunk(row, -1, 1), ((1, 4), (11, 11)))
        self.assert_same_row(row_shrunk(row, 4, 4), ((-4, 1), (6, 8)))
        self.assert_same_row(row_shrunk(row, -4, -4), ((4, 9), (14, 16)))
        self.assert_same_row(row_shrunk(row, 0, 0), row)
        self.assert_same_row(row_shrunk((), -1, 1), ())

    def test_shrinking_leaves_nothing_of_a_stretch(self):
        row = ((0, 5), (10, 12))
        self.assert_same_row(row_shrunk(row, 0, 3), ((0, 2),))
        self.assert_same_row(row_shrunk(row, -3, 2), ((3, 3),))
        self.assert_same_row(row_shrunk(row, -3, 3), ())

    def test_far_out(self):
        self.assert_same_row(row_spread(((0, 0),), -FAR, FAR), ((-FAR, FAR),))
        self.assert_same_row(row_shrunk(((-FAR, FAR),), -FAR, FAR), ((0, 0),))
        self.assert_same_row(row_shrunk(((-FAR, FAR - 1),), -FAR, FAR), ())

    def test_every_small_row(self):
        for row, some in all_small_rows():
            for low in range(-3, 4):
                for high in range(low, 4):
                    steps = range(low, high + 1)
                    spread = {x + d for x in some for d in steps}
                    shrunk = {x for x in range(-9, 10) if all(x + d in some for d in steps)}
                    self.assert_same_row(row_spread(row, low, high), plain_row(spread))
                    self.assert_same_row(row_shrunk(row, low, high), plain_row(shrunk))


class RowGaps(RowCase):
    def test_gaps(self):
        self.assert_same_row(row_gaps(()), ())
        self.assert_same_row(row_gaps(((-3, 8),)), ())
        self.assert_same_row(row_gaps(((0, 2), (4, 4))), ((3, 3),))
        self.assert_same_row(row_gaps(((-9, -7), (-2, 0), (2, 5))), ((-6, -3), (1, 1)))
        self.assert_same_row(row_gaps(((-FAR, -FAR), (FAR, FAR))), ((1 - FAR, FAR - 1),))

    def test_every_small_row(self):
        for row, some in all_small_rows():
            between = set(range(min(some), max(some))) - some if some else set()
            self.assert_same_row(row_gaps(row), plain_row(between))


if __name__ == "__main__":
    unittest.main()
