import unittest

from helper import FAR, PictureCase, all_small_pictures
from shapethin.drawings import draw, read_drawn
from shapethin.errors import NoText, TooGreat
from shapethin.pictures import box_of, picture_of

GAPPED = ((-3, ((4, 5), (8, 8))), (0, ((2, 2),)), (1, ((3, 9),)))
GAPPED_DRAWN = ["..##..#.", "........", "........", "#.......", ".#######"]


class Draw(PictureCase):
    def test_without_cells(self):
        self.assertEqual(draw(()), [])

    def test_one_cell(self):
        for x, y in [(0, 0), (-7, 5), (FAR, -FAR)]:
            self.assertEqual(draw(((y, ((x, x),)),)), ["#"])

    def test_gaps_and_rows_without_cells(self):
        self.assertEqual(draw(GAPPED), GAPPED_DRAWN)

    def test_rows_are_drawn_from_above_to_below_and_from_left_to_right(self):
        self.assertEqual(draw(((0, ((0, 1),)), (1, ((0, 0),)))), ["##", "#."])
        self.assertEqual(draw(((-1, ((-1, -1),)), (0, ((-2, -1),)))), [".#", "##"])

    def test_far_out(self):
        far = tuple((y + FAR - 1, tuple((a - FAR, b - FAR) for a, b in row)) for y, row in GAPPED)
        self.assertEqual(draw(far), GAPPED_DRAWN)
        told = ((10 ** 99, ((-(10 ** 99), 2 - 10 ** 99),)),)
        self.assertEqual(draw(told), ["###"])

    def test_boxes_around_a_thousand_cells(self):
        for many in (999, 1000):
            self.assertEqual(draw(((3, ((1, many),)),)), ["#" * many])
            self.assertEqual(draw(((3, ((1, 1), (many, many))),)), ["#" + "." * (many - 2) + "#"])
            column = tuple((y, ((5, 5),)) for y in range(many))
            self.assertEqual(draw(column), ["#"] * many)
            self.assertEqual(draw((column[0], column[-1])), ["#"] + ["."] * (many - 2) + ["#"])
        self.assert_refused(TooGreat, draw, ((3, ((1, 1001),)),))
        self.assert_refused(TooGreat, draw, ((3, ((1, 1), (1001, 1001))),))
        self.assert_refused(TooGreat, draw, tuple((y, ((5, 5),)) for y in range(1001)))

    def test_boxes_of_several_rows_and_columns(self):
        for width, height in [(27, 37), (37, 27), (40, 25), (25, 40), (500, 2), (2, 500)]:
            corners = picture_of([(0, 0, 0), (height - 1, width - 1, width - 1)])
            drawn = draw(corners)
            self.assertEqual(drawn[0], "#" + "." * (width - 1))
            self.assertEqual(drawn[1:-1], ["." * width] * (height - 2))
            self.assertEqual(drawn[-1], "." * (width - 1) + "#")
        for width, height in [(143, 7), (7, 143), (13, 77), (11, 91), (32, 32), (501, 2), (2, 501)]:
            self.assert_refused(TooGreat, draw, picture_of([(0, 0, 0), (height - 1, width - 1, width - 1)]))

    def test_two_cells_far_apart(self):
        for x, y in [(FAR, 0), (0, FAR), (FAR, FAR), (-FAR, FAR), (10 ** 20, 10 ** 20)]:
            self.assert_refused(TooGreat, draw, picture_of([(0, 0, 0), (y, x, x)]))
        self.assert_refused(TooGreat, draw, ((0, ((0, 10 ** 50),)),))

    def test_the_list_told_is_the_askers_own(self):
        for picture, expected in [((), []), (GAPPED, GAPPED_DRAWN)]:
            told = draw(picture)
            self.assertIs(type(told), list)
            told.append("#")
            told.reverse()
            self.assertEqual(draw(picture), expected)


class ReadDrawn(PictureCase):
    def test_no_texts_and_texts_without_signs(self):
        self.assert_same_picture(read_drawn([]), ())
        self.assert_same_picture(read_drawn([""]), ())
        self.assert_same_picture(read_drawn(["", "", ""], 5, 7), ())
        self.assert_same_picture(read_drawn(["...", ".", ""]), ())
        self.assert_same_picture(read_drawn(["", "#", "", ".#", ""]), ((1, ((0, 0),)), (3, ((1, 1),))))

    def test_texts_of_unlike_lengths(self):
        self.assert_same_picture(read_drawn(["#", ".##.", "", "..#.##"]),
                                 ((0, ((0, 0),)), (1, ((1, 2),)), (3, ((2, 2), (4, 5)))))
        self.assert_same_picture(read_drawn(["....", "##"]), ((1, ((0, 1),)),))

    def test_at_the_cell_handed_in(self):
        drawn = [".#", "##."]
        self.assert_same_picture(read_drawn(drawn), ((0, ((1, 1),)), (1, ((0, 1),))))
        self.assert_same_picture(read_drawn(drawn, 0, 0), ((0, ((1, 1),)), (1, ((0, 1),))))
        self.assert_same_picture(read_drawn(drawn, 10, -3), ((-3, ((11, 11),)), (-2, ((10, 11),))))
        self.assert_same_picture(read_drawn(drawn, x=10, y=-3), ((-3, ((11, 11),)), (-2, ((10, 11),))))
        self.assert_same_picture(read_drawn(rows=drawn, y=5, x=-1), ((5, ((0, 0),)), (6, ((-1, 0),))))
        self.assert_same_picture(read_drawn(drawn, -FAR, FAR),
                                 ((FAR, ((1 - FAR, 1 - FAR),)), (FAR + 1, ((-FAR, 1 - FAR),))))

    def test_long_texts(self):
        self.assert_same_picture(read_drawn(["#" * 100000]), ((0, ((0, 99999),)),))
        self.assert_same_picture(read_drawn(["." * 5000 + "#"] * 2000),
                                 tuple((y, ((5000, 5000),)) for y in range(2000)))
        self.assert_same_picture(read_drawn(["#." * 5000]), ((0, tuple((2 * k, 2 * k) for k in range(5000))),))

    def test_another_sign_wherever_it_stands(self):
        signs = [chr(code) for code in range(32, 127) if chr(code) not in "#."] + ["\n", "\t", "\u00b7", "\uff03"]
        for sign in signs:
            for text in [sign, f"{sign}#.", f"#{sign}.", f".{sign}#", f"#.{sign}", f"..{sign}", f"##{sign}##"]:
                for rows in [[text], [text, "#"], ["#", text], ["#", text, "."], ["", text], [text, ""]]:
                    self.assert_refused(NoText, read_drawn, rows)
                    self.assert_refused(NoText, read_drawn, rows, 3, -FAR)

    def test_the_list_handed_in_stays_and_is_not_kept(self):
        rows = ["#.", "", ".#"]
        picture = read_drawn(rows, 1, 1)
        self.assertEqual(rows, ["#.", "", ".#"])
        rows.clear()
        self.assert_same_picture(picture, ((1, ((1, 1),)), (3, ((2, 2),))))
        wrong = ["#", "x"]
        self.assert_refused(NoText, read_drawn, wrong)
        self.assertEqual(wrong, ["#", "x"])


class DrawnAndRead(PictureCase):
    def assert_comes_back(self, picture):
        box = box_of(picture)
        self.assert_same_picture(read_drawn(draw(picture), box[0], box[1]), picture)

    def test_every_small_picture(self):
        for picture, some in all_small_pictures(range(-2, 2), range(-1, 2)):
            drawn = draw(picture)
            if picture == ():
                self.assertEqual(drawn, [])
                continue
            left, up, right, down = box_of(picture)
            self.assertEqual(drawn, ["".join("#" if (x, y) in some else "." for x in range(left, right + 1))
                                     for y in range(up, down + 1)])
            self.assert_comes_back(picture)

    def test_far_out(self):
        self.assert_comes_back(GAPPED)
        self.assert_comes_back(((FAR, ((-FAR, 5 - FAR), (9 - FAR, 9 - FAR))), (FAR + 3, ((-FAR, -FAR),))))
        self.assert_comes_back(((-FAR, ((FAR - 7, FAR - 7), (FAR, FAR))),))


if __name__ == "__main__":
    unittest.main()
