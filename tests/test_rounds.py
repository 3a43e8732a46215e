import unittest

from helper import FAR, WORTH, PictureCase, all_small_pictures, plain_around, plain_picture, plain_turns
from shapethin.drawings import read_drawn
from shapethin.holes import holes
from shapethin.measures import told_number
from shapethin.pictures import moved, picture_of
from shapethin.pieces import pieces
from shapethin.rounds import around, may_go, turns

ALL_EIGHT = read_drawn(["###", "#.#", "###"], -1, -1)


def round_of(number, with_middle=True):
    """The picture round (0, 0) that has this number."""
    some = {cell for cell, worth in WORTH.items() if number // worth % 2 == 1}
    return plain_picture(some | {(0, 0)} if with_middle else some)


class Around(PictureCase):
    def test_each_neighbour_alone(self):
        for (dx, dy), worth in WORTH.items():
            alone = ((dy, ((dx, dx),)),)
            self.assertEqual(around(alone, 0, 0), worth)
            self.assertEqual(around(moved(alone, 7, -9), 7, -9), worth)
            self.assertEqual(around(moved(alone, FAR, -FAR), FAR, -FAR), worth)

    def test_all_and_none(self):
        self.assertEqual(around(ALL_EIGHT, 0, 0), 255)
        self.assertEqual(around(((-1, ((-9, 9),)), (0, ((-9, 9),)), (1, ((-9, 9),))), 0, 0), 255)
        self.assertEqual(around((), 0, 0), 0)
        self.assertEqual(around(((0, ((0, 0),)),), 0, 0), 0)
        self.assertEqual(around(((-2, ((-9, 9),)), (0, ((-9, -2), (2, 9))), (2, ((-9, 9),))), 0, 0), 0)

    def test_the_cell_itself_does_not_matter(self):
        for number in range(256):
            self.assertEqual(around(round_of(number), 0, 0), number)
            self.assertEqual(around(round_of(number, False), 0, 0), number)

    def test_every_cell_of_small_pictures(self):
        for picture, some in all_small_pictures(range(3), range(3)):
            for x in range(-2, 5):
                for y in range(-2, 5):
                    self.assertEqual(around(picture, x, y), plain_around(some, x, y))

    def test_far_out(self):
        long = ((FAR - 1, ((-FAR, FAR),)), (FAR, ((-FAR, -FAR), (FAR, FAR))), (FAR + 1, ((0, FAR),)))
        self.assertEqual(around(long, FAR, FAR), 1 + 2 + 8 + 16)
        self.assertEqual(around(long, -FAR, FAR), 1 + 128)
        self.assertEqual(around(long, FAR - 1, FAR), 1 + 2 + 8 + 16 + 32 + 64 + 128)
        self.assertEqual(around(long, 0, FAR), 1 + 2 + 16 + 32 + 128)
        self.assertEqual(around(long, -1, FAR), 1 + 2 + 32 + 128)
        self.assertEqual(around(long, FAR + 1, FAR), 2 + 4 + 8)
        self.assertEqual(around(long, 10 ** 99, -10 ** 99), 0)

    def test_kind_and_by_name(self):
        self.assertIs(type(around((), 0, 0)), int)
        self.assertIs(type(around(picture=ALL_EIGHT, x=0, y=0)), int)
        self.assertEqual(around(picture=ALL_EIGHT, x=1, y=0), 1 + 2 + 8 + 16)


class Turns(PictureCase):
    def test_told_ones(self):
        self.assertEqual(turns(0), 0)
        self.assertEqual(turns(255), 0)
        self.assertEqual([turns(1 << k) for k in range(8)], [1] * 8)
        self.assertEqual([turns(255 - (1 << k)) for k in range(8)], [1, 0] * 4)
        self.assertEqual(turns(1 + 4 + 16 + 64), 0)
        self.assertEqual(turns(2 + 8 + 32 + 128), 4)
        self.assertEqual(turns(1 + 16), 2)
        self.assertEqual(turns(4 + 64), 2)

    def test_the_last_is_followed_by_the_first(self):
        self.assertEqual(turns(1), 1)
        self.assertEqual(turns(128), 1)
        self.assertEqual(turns(128 + 1), 1)
        self.assertEqual(turns(64 + 1), 1)
        self.assertEqual(turns(64 + 2), 2)

    def test_all_numbers(self):
        for number in range(256):
            self.assertIs(type(turns(number)), int)
            self.assertEqual(turns(number), plain_turns(number))
        self.assertEqual(turns(number=2 + 8 + 32), 3)

    def test_a_quarter_turned_they_are_the_same(self):
        for number in range(256):
            self.assertEqual(turns(number * 4 % 256 + number // 64), turns(number))


class MayGo(PictureCase):
    def test_told_ones(self):
        self.assertIs(may_go(read_drawn(["###", "###"]), 1, 0), True)
        self.assertIs(may_go(read_drawn(["###", "###", "###"]), 1, 1), False)
        self.assertIs(may_go(read_drawn(["###", "###", "###"]), 0, 0), True)
        self.assertIs(may_go(read_drawn(["###", "#.#", "###"]), 1, 0), False)
        self.assertIs(may_go(read_drawn(["###"]), 1, 0), False)
        self.assertIs(may_go(read_drawn([".#.", "###", ".#."]), 1, 1), False)
        self.assertIs(may_go(read_drawn(["#..", ".#.", "..#"]), 1, 1), False)

    def test_ends(self):
        for drawn, x, y in [(["##"], 0, 0), (["##"], 1, 0), (["#", "#"], 0, 0), (["#.", ".#"], 1, 1),
                            ([".#", "#."], 1, 0)]:
            picture = read_drawn(drawn)
            self.assertIs(may_go(picture, x, y), False)
            self.assertIs(may_go(picture, x, y, True), False)
            self.assertIs(may_go(picture, x, y, False), True)

    def test_two_neighbours_are_enough(self):
        for ends in (True, False):
            self.assertIs(may_go(read_drawn(["##", "#."]), 0, 0, ends), True)
            self.assertIs(may_go(read_drawn(["##", ".#"]), 0, 0, ends), True)
            self.assertIs(may_go(read_drawn(["#.#", ".#."]), 1, 1, ends), False)

    def test_a_cell_alone_stays(self):
        for ends in (True, False):
            self.assertIs(may_go(((0, ((0, 0),)),), 0, 0, ends), False)

    def test_every_round(self):
        for number in range(256):
            one_turn = plain_turns(number) == 1
            for dx, dy in [(0, 0), (FAR, -FAR)]:
                picture = moved(round_of(number), dx, dy)
                kept = one_turn and bin(number).count("1") >= 2
                self.assertIs(may_go(picture, dx, dy), kept)
                self.assertIs(may_go(picture, dx, dy, True), kept)
                self.assertIs(may_go(picture, dx, dy, ends=True), kept)
                self.assertIs(may_go(picture, dx, dy, False), one_turn)
                self.assertIs(may_go(picture, x=dx, y=dy, ends=False), one_turn)

    def test_what_may_go_leaves_as_many_pieces_and_holes(self):
        for picture, some in all_small_pictures(range(4), range(3)):
            for x, y in some:
                left = plain_picture(some - {(x, y)})
                if may_go(picture, x, y, False):
                    self.assertEqual(len(pieces(left)), len(pieces(picture)))
                    self.assertEqual(len(holes(left)), len(holes(picture)))
                self.assertEqual(told_number(left) == told_number(picture),
                                 plain_turns(plain_around(some, x, y)) == 1)

    def test_long_stretches(self):
        long = picture_of([(0, -FAR, FAR), (1, -FAR, FAR)])
        self.assertIs(may_go(long, 0, 0), True)
        self.assertIs(may_go(long, FAR, 1), True)
        self.assertIs(may_go(long[:1], FAR, 0), False)
        self.assertIs(may_go(long[:1], FAR, 0, False), True)
        self.assertIs(may_go(long[:1], 0, 0, False), False)


if __name__ == "__main__":
    unittest.main()
