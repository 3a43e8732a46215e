import unittest

from helper import FAR, PictureCase, all_small_pictures, cells, patches, plain_around, plain_picture, plain_turns
from shapethin.drawings import draw, read_drawn
from shapethin.errors import TooGreat
from shapethin.pictures import cells_of, count_cells, join, less, moved, picture_of
from shapethin.rounds import may_go
from shapethin.thin import thinned

# The neighbour on the side of each pass: above, to the left, below, to the right.
ABOVE, LEFT, BELOW, RIGHT = (0, -1), (-1, 0), (0, 1), (1, 0)


def plain_may_go(some, x, y, ends):
    number = plain_around(some, x, y)
    return plain_turns(number) == 1 and (not ends or bin(number).count("1") >= 2)


def plain_pass(some, side, ends):
    """Takes out of the set what one pass takes, and tells it."""
    beginning = frozenset(some)
    taken = []
    for x, y in sorted(beginning, key=lambda cell: (cell[1], cell[0])):
        if (x + side[0], y + side[1]) not in beginning and plain_may_go(some, x, y, ends):
            some.remove((x, y))
            taken.append((x, y))
    return taken


def plain_thinned(some, ends):
    """The passes as the document tells them, over a set of cells."""
    left = set(some)
    taken = []
    while True:
        by_round = []
        for side in (ABOVE, LEFT, BELOW, RIGHT):
            by_round.extend(plain_pass(left, side, ends))
        taken.extend(by_round)
        if not by_round:
            return plain_picture(left), taken


def block(wide, high):
    return picture_of([(y, 0, wide - 1) for y in range(high)])


def rings():
    for wide in range(3, 9):
        for high in range(3, 9):
            for left, up, right, down in [(1, 1, 1, 1), (2, 1, 1, 1), (1, 2, 1, 1), (1, 1, 2, 1), (1, 1, 1, 2),
                                          (2, 2, 2, 2), (3, 2, 1, 1), (1, 1, 2, 3)]:
                if left + right < wide and up + down < high:
                    hole = moved(block(wide - left - right, high - up - down), left, up)
                    yield less(block(wide, high), hole)


class ThinCase(PictureCase):
    def assert_told(self, told, expected):
        self.assertIs(type(told), tuple)
        self.assertEqual(len(told), 2)
        self.assert_picture(told[0])
        self.assertIs(type(told[1]), list)
        for cell in told[1]:
            self.assertIs(type(cell), tuple)
        self.assertEqual(told, expected)

    def assert_thinned_by_passes(self, picture):
        kept = plain_thinned(cells(picture), True)
        self.assert_told(thinned(picture), kept)
        self.assert_told(thinned(picture, True), kept)
        self.assert_told(thinned(picture, ends=False), plain_thinned(cells(picture), False))

    def assert_done(self, picture, ends):
        """What is told is what is left, and there the end is reached."""
        left, taken = thinned(picture, ends)
        self.assertEqual(len(set(taken)), len(taken))
        self.assertEqual(join(left, picture_of([(y, x, x) for x, y in taken])), picture)
        self.assertEqual(count_cells(left) + len(taken), count_cells(picture))
        for x, y in cells_of(left):
            self.assertIs(may_go(left, x, y, ends), False)
        self.assert_told(thinned(left, ends), (left, []))


class ToldOnes(ThinCase):
    def test_without_cells(self):
        self.assert_told(thinned(()), ((), []))
        self.assert_told(thinned((), True), ((), []))
        self.assert_told(thinned((), False), ((), []))

    def test_one_cell(self):
        for cell in [((0, ((0, 0),)),), ((-3, ((7, 7),)),), ((FAR, ((-FAR, -FAR),)),)]:
            self.assert_told(thinned(cell), (cell, []))
            self.assert_told(thinned(cell, False), (cell, []))

    def test_two_rows(self):
        above = [(0, 0), (1, 0), (2, 0)]
        self.assert_told(thinned(block(3, 2)), (((1, ((0, 2),)),), above))
        self.assert_told(thinned(block(3, 2), False), (((1, ((2, 2),)),), above + [(0, 1), (1, 1)]))

    def test_two_columns(self):
        # From above (0, 1) and (1, 1) are not free at the beginning, though they are when their turn would come.
        taken = [(0, 0), (1, 0), (0, 1), (0, 2)]
        self.assert_told(thinned(block(2, 3)), (((1, ((1, 1),)), (2, ((1, 1),))), taken))
        self.assert_told(thinned(block(2, 3), False), (((1, ((1, 1),)),), taken + [(1, 2)]))

    def test_a_line_keeps_its_ends_or_not(self):
        self.assertEqual(thinned(block(4, 1)), (block(4, 1), []))
        self.assertEqual(thinned(block(1, 4)), (block(1, 4), []))
        # From above all four are free at the beginning, and each is an end when its turn comes.
        self.assertEqual(thinned(block(4, 1), False), (((0, ((3, 3),)),), [(0, 0), (1, 0), (2, 0)]))
        # From above only the first one is, the others from the left.
        self.assertEqual(thinned(block(1, 4), False), (((3, ((0, 0),)),), [(0, 0), (0, 1), (0, 2)]))

    def test_a_line_aslant(self):
        down = read_drawn(["#..", ".#.", "..#"])
        up = read_drawn(["..#", ".#.", "#.."])
        for picture in (down, up):
            self.assertEqual(thinned(picture), (picture, []))
        self.assertEqual(thinned(down, False), (((2, ((2, 2),)),), [(0, 0), (1, 1)]))
        self.assertEqual(thinned(up, False), (((2, ((0, 0),)),), [(2, 0), (1, 1)]))

    def test_a_thin_ring_stays(self):
        for drawn in [[".#.", "#.#", ".#."], [".##.", "#..#", ".##."]]:
            ring = read_drawn(drawn)
            self.assertEqual(thinned(ring), (ring, []))
            self.assertEqual(thinned(ring, False), (ring, []))

    def test_the_corners_of_a_ring_go(self):
        left, taken = thinned(read_drawn(["###", "#.#", "###"]))
        self.assertEqual(draw(left), [".#.", "#.#", ".#."])
        self.assertEqual(taken, [(0, 0), (2, 0), (0, 2), (2, 2)])

    def test_a_block_ends_as_one_cell_where_no_ends_are_kept(self):
        for wide in range(1, 9):
            for high in range(1, 9):
                left, taken = thinned(block(wide, high), False)
                self.assertEqual(count_cells(left), 1)
                self.assertEqual(len(taken), wide * high - 1)

    def test_by_name(self):
        self.assertEqual(thinned(picture=block(3, 2), ends=True), thinned(block(3, 2)))
        self.assertEqual(thinned(ends=False, picture=block(3, 2)), thinned(block(3, 2), False))
        self.assertNotEqual(thinned(block(3, 2), False), thinned(block(3, 2)))


class ByPasses(ThinCase):
    def test_blocks(self):
        for wide in range(1, 10):
            for high in range(1, 10):
                self.assert_thinned_by_passes(block(wide, high))

    def test_rings(self):
        for ring in rings():
            self.assert_thinned_by_passes(ring)

    def test_all_small_pictures(self):
        for columns, rows in [(4, 3), (3, 4)]:
            for picture, some in all_small_pictures(range(columns), range(rows)):
                self.assert_thinned_by_passes(picture)

    def test_patches(self):
        for picture in patches(9, 8, 150):
            self.assert_thinned_by_passes(picture)

    def test_what_the_words_of_a_pass_ask_for_matters(self):
        # Each other reading takes other cells, or in another order, of one of these pictures at least.
        pictures = list(patches(6, 6, 60))
        told = [thinned(picture, False) for picture in pictures]
        for sides in [(ABOVE, BELOW, LEFT, RIGHT), (ABOVE, RIGHT, BELOW, LEFT), (LEFT, ABOVE, BELOW, RIGHT)]:
            others = []
            for picture in pictures:
                left = cells(picture)
                taken = []
                before = None
                while before != len(taken):
                    before = len(taken)
                    for side in sides:
                        taken.extend(plain_pass(left, side, False))
                others.append((plain_picture(left), taken))
            self.assertNotEqual(others, told)

    def test_in_columns_and_rows_below_nought_and_far_out(self):
        for picture in list(patches(7, 7, 20)) + [block(6, 5), block(1, 1)]:
            for ends in (True, False):
                left, taken = thinned(picture, ends)
                for dx, dy in [(-3, -4), (FAR, -FAR), (-FAR, FAR), (10 ** 99, -10 ** 99)]:
                    expected = (moved(left, dx, dy), [(x + dx, y + dy) for x, y in taken])
                    self.assert_told(thinned(moved(picture, dx, dy), ends), expected)

    def test_pictures_far_from_one_another(self):
        one, other = block(5, 4), moved(read_drawn(["####", "#..#", "####"]), FAR, FAR - 7)
        for ends in (True, False):
            both = thinned(join(one, other), ends)
            apart = [thinned(one, ends), thinned(other, ends)]
            self.assertEqual(both[0], join(apart[0][0], apart[1][0]))
            self.assertEqual(sorted(both[1]), sorted(apart[0][1] + apart[1][1]))


class TheEnd(ThinCase):
    def test_of_all_small_pictures(self):
        for picture, some in all_small_pictures(range(4), range(3)):
            for ends in (True, False):
                self.assert_done(picture, ends)

    def test_of_blocks_rings_and_patches(self):
        for picture in [block(9, 7)] + list(rings())[::5] + list(patches(10, 10, 25)):
            for ends in (True, False):
                self.assert_done(picture, ends)

    def test_each_cell_may_go_at_its_turn(self):
        for picture in list(patches(6, 6, 40)) + [block(6, 6)]:
            for ends in (True, False):
                left = picture
                for x, y in thinned(picture, ends)[1]:
                    self.assertIs(may_go(left, x, y, ends), True)
                    left = less(left, ((y, ((x, x),)),))
                self.assertEqual(left, thinned(picture, ends)[0])


class Size(ThinCase):
    def test_just_a_thousand_cells(self):
        comb = picture_of([(0, 0, 199)] + [(y, x, x) for x in range(0, 200, 2) for y in range(1, 9)])
        self.assertEqual(count_cells(comb), 1000)
        for picture in [block(1000, 1), block(1, 1000), block(25, 40), block(500, 2), block(2, 500), comb]:
            self.assertEqual(count_cells(picture), 1000)
            self.assert_thinned_by_passes(picture)
            self.assert_done(picture, True)

    def test_a_tail_that_is_taken_slowly(self):
        tail = join(read_drawn(["###", "#.#", "###"]), picture_of([(y, 1, 1) for y in range(3, 995)]))
        left, taken = thinned(tail, False)
        # The cell between the ring's hole and the tail goes too, as the cells aslant of it hold together.
        self.assertEqual(draw(left), [".#.", "#.#", "#.#", ".#."])
        self.assertEqual(len(taken), 994)

    def test_more_than_a_thousand_cells(self):
        scattered = picture_of([(y, 0, y % 7) for y in range(0, 1000, 2)])
        for picture in [block(1001, 1), block(1, 1001), block(7, 143), join(block(25, 40), ((99, ((5, 5),)),)),
                        ((0, ((0, 10 ** 50),)),), ((0, ((-FAR, FAR),)), (1, ((0, 0),))), scattered,
                        ((FAR, ((-FAR, 1001 - FAR),)),), picture_of([(y, 0, 0) for y in range(10000)])]:
            self.assertGreater(count_cells(picture), 1000)
            self.assert_refused(TooGreat, thinned, picture)
            self.assert_refused(TooGreat, thinned, picture, True)
            self.assert_refused(TooGreat, thinned, picture, False)


class OwnLists(ThinCase):
    def test_the_list_is_the_askers_own(self):
        picture = block(4, 4)
        for ends in (True, False):
            first = thinned(picture, ends)[1]
            before = list(first)
            first.reverse()
            first.append("changed")
            second = thinned(picture, ends)[1]
            self.assertEqual(second, before)
            second.clear()
            self.assertEqual(thinned(picture, ends)[1], before)

    def test_the_list_of_nothing_taken_too(self):
        first = thinned(())[1]
        first.append("changed")
        self.assertEqual(thinned(()), ((), []))

    def test_the_picture_handed_in_stays(self):
        picture = block(4, 4)
        thinned(picture)
        self.assertEqual(picture, tuple((y, ((0, 3),)) for y in range(4)))


if __name__ == "__main__":
    unittest.main()
