import unittest

from helper import FAR, PictureCase, all_small_pictures
from shapethin.errors import NoText
from shapethin.forms import Box
from shapethin.pictures import count_cells, moved, picture_of, stretches_of
from shapethin.texts import read, read_whole, show

NINES = "9" * 60
SHOWN = [
    ((), "nothing"),
    (((0, ((0, 0),)),), "0: 0"),
    (((0, ((0, 1),)),), "0: 0..1"),
    (((-1, ((-1, -1),)),), "-1: -1"),
    (((-2, ((0, 3), (5, 5))), (7, ((-1, -1),))), "-2: 0..3 5; 7: -1"),
    (((-10, ((-30, -20), (-7, -7), (-5, 0), (2, 10))), (-9, ((4, 4),)), (0, ((-1, 1),)), (10, ((100, 200),))),
     "-10: -30..-20 -7 -5..0 2..10; -9: 4; 0: -1..1; 10: 100..200"),
    (((-FAR, ((-FAR, 7),)), (FAR, ((0, 0), (2, FAR)))), f"-{NINES}: -{NINES}..7; {NINES}: 0 2..{NINES}"),
    (((10 ** 59, ((-(10 ** 59), -(10 ** 59)),)),), f"1{'0' * 59}: -1{'0' * 59}"),
]
NO_TEXTS = [0, 7, -7, True, False, None, [], ["0"], ["0: 0"], [0], (), ("0",), ((0, ((0, 0),)),), {}, {"0": 0}, b"0",
            b"nothing", 1.5, object(), str, Box(0, 0, 0, 0), {"0"}, bytearray(b"0"), range(1)]


class ReadWhole(PictureCase):
    def test_nought(self):
        self.assertEqual(read_whole("0"), 0)

    def test_one_figure(self):
        for number in range(-9, 10):
            self.assertEqual(read_whole(str(number)), number)

    def test_more_figures(self):
        for text, number in [("10", 10), ("-10", -10), ("100", 100), ("907", 907), ("-1234567890", -1234567890)]:
            self.assertEqual(read_whole(text), number)
            self.assertIs(type(read_whole(text)), int)

    def test_sixty_figures(self):
        self.assertEqual(read_whole(NINES), FAR)
        self.assertEqual(read_whole("-" + NINES), -FAR)
        self.assertEqual(read_whole("1" + "0" * 59), 10 ** 59)
        self.assertEqual(read_whole("-1" + "0" * 59), -(10 ** 59))
        self.assertEqual(read_whole("123456789" * 6 + "123456"), int("123456789" * 6 + "123456"))

    def test_more_than_sixty_figures(self):
        for text in ["9" * 61, "-" + "9" * 61, "1" + "0" * 60, "-1" + "0" * 60, "9" * 10000, "-" + "9" * 10000]:
            self.assert_refused(NoText, read_whole, text)

    def test_noughts_ahead(self):
        for text in ["-0", "00", "-00", "01", "-01", "000", "007", "0" * 60, "0" * 59 + "1", "0" + NINES]:
            self.assert_refused(NoText, read_whole, text)

    def test_another_sign_ahead_amid_or_behind(self):
        signs = [chr(code) for code in range(32, 127) if not chr(code).isdigit()]
        for sign in signs + ["\n", "\t", "\r", "\r\n", "\0"]:
            for text in [sign, f"5{sign}", f"1{sign}2", f"-5{sign}", f"-{sign}5", f"{sign}-5", f"-1{sign}2"]:
                self.assert_refused(NoText, read_whole, text)
            if sign != "-":
                self.assert_refused(NoText, read_whole, f"{sign}5")

    def test_signs_of_other_ways_to_write_numbers(self):
        for text in ["--5", "-", "--", "", "+5", "+0", "5.0", "1e3", "0x10", "0b1", "1_000", "1,000", "ten", "- 5",
                     "\u0665", "1\u0665", "\u00b2", "1\u00b2", "\uff15", "\u22125", "\u4e94", "1\u00a0", "1\u200b"]:
            self.assert_refused(NoText, read_whole, text)

    def test_what_is_no_text(self):
        for thing in NO_TEXTS:
            self.assert_refused(NoText, read_whole, thing)


class Show(PictureCase):
    def test_as_the_document_writes_them(self):
        for picture, text in SHOWN:
            self.assertEqual(show(picture), text)
            self.assertIs(type(show(picture)), str)

    def test_more_than_sixty_figures_are_all_shown(self):
        picture = moved(((FAR, ((-FAR, -FAR), (1, FAR))),), FAR, FAR)
        self.assertEqual(show(picture), f"1{'9' * 59}8: 0 1{'0' * 60}..1{'9' * 59}8")
        self.assertEqual(show(((10 ** 99, ((-(10 ** 99), 10 ** 99),)),)), f"1{'0' * 99}: -1{'0' * 99}..1{'0' * 99}")
        grown = Box(FAR, 0, FAR, 0).greater(((0, ((-FAR, FAR),)),))
        self.assertEqual(show(grown), f"0: -1{'9' * 59}8..1{'9' * 59}8")


class Read(PictureCase):
    def test_each_text_shown_is_read(self):
        for picture, text in SHOWN:
            self.assert_same_picture(read(text), picture)

    def test_every_small_picture(self):
        for picture, some in all_small_pictures(range(-1, 3), range(-1, 2)):
            text = show(picture)
            self.assert_same_picture(read(text), picture)
            self.assertEqual(show(read(text)), text)

    def test_unlike_pictures_have_unlike_texts(self):
        texts = {show(picture) for picture, some in all_small_pictures(range(-1, 2), range(-1, 2))}
        self.assertEqual(len(texts), 512)

    def test_ten_thousand_stretches(self):
        picture = picture_of([(k // 10, 7 * (k % 10), 7 * (k % 10) + k % 3) for k in range(10000)])
        self.assertEqual(len(stretches_of(picture)), 10000)
        self.assert_same_picture(read(show(picture)), picture)

    def test_a_long_stretch(self):
        self.assertEqual(count_cells(read(f"0: -{NINES}..{NINES}")), 2 * FAR + 1)

    def assert_no_picture(self, *texts):
        for text in texts:
            with self.subTest(text=text):
                self.assert_refused(NoText, read, text)

    def test_a_part_missing(self):
        self.assert_no_picture("", "0", "0:", "0: ", ":", ": ", ": 0", "0 0", "0 0..1", "0..1", "0: ..", "0: 1..",
                               "0: ..1", "0: 1.. 2", "0: 1 ..2", "0: 1; ", "; 0: 1", "0: 1; 2", "0: 1; 2:", "0: 1; 2: ",
                               "0: 1; : 3", "0: 1; 3", "0: 1; ; 2: 3", "; ", ";", " ", "..", "0: 1.2", "0: 1.", "0: .1")

    def test_a_part_twice(self):
        self.assert_no_picture("0: 0: 1", "0:: 1", "0: : 1", "0: 1..2..3", "0: 1..1..3", "0: 1..3..3", "0: 1...3",
                               "0: 1....3", "0: 1; 0: 1", "0: 1; 0: 3", "0: 1 1", "0: 1..2 1..2", "0: 1;; 2: 3",
                               "0 0: 1", "nothing nothing", "0: 1..2.. 3")

    def test_out_of_order(self):
        self.assert_no_picture("1: 0; 0: 0", "0: 0; -1: 0", "-1: 0; -2: 0", "10: 0; 9: 0", "0: 3 1", "0: 3..4 0..1",
                               "0: 0 -2", "0: 10 8", "0: 1; 2: 1; 1: 1", "-1: 0; 1: 0; 0: 0",
                               f"{NINES}: 0; -{NINES}: 0")

    def test_meeting_and_overlapping(self):
        self.assert_no_picture("0: 1 2", "0: 1..2 3", "0: 1 2..3", "0: 1..2 3..4", "0: 1..3 2..4", "0: 1..3 2",
                               "0: 1..3 3", "0: 1..9 2..3", "0: -1 0", "0: 0 1..4", "0: 5 7; 1: 1 2")

    def test_one_cell_as_a_stretch_of_two_ends(self):
        self.assert_no_picture("0: 0..0", "0: 5..5", "0: -5..-5", f"0: {NINES}..{NINES}", "0: 1 3..3", "0: 1; 1: 4..4")

    def test_first_end_greater_than_the_second(self):
        self.assert_no_picture("0: 1..0", "0: 0..-1", "0: -1..-2", "0: 5..3", f"0: {NINES}..-{NINES}", "0: 1 5..3",
                               "0: 5..3 7", "0: 1; 1: 4..3", "1: 4..3; 2: 1")

    def test_a_row_without_stretches(self):
        self.assert_no_picture("0:", "0: ", "0: ; 1: 2", "0:; 1: 2", "1: 2; 3: ", "1: 2; 3:", "0: nothing")

    def test_another_blank_or_a_missing_one(self):
        self.assert_no_picture(" 0: 1", "0: 1 ", "0 : 1", "0:  1", "0:1", "0: 1  3", "0: 1..2 ", "0: 1 ..2", "0: 1. .2",
                               "0: 1; 2: 3 ", "0: 1;  2: 3", "0: 1 ; 2: 3", "0: 1;2: 3", "0: 13; 2:3", "0:1; 2: 3",
                               "- 1: 0", "0: - 1", "nothing ", " nothing", "0: 1\n", "\n0: 1", "0:\n1", "0: 1;\n2: 3",
                               "0: 1\n; 2: 3", "0: 1\n3", "0:\t1", "0: 1\t3", "0:\u00a01", "0: 1 3\r")

    def test_a_semicolon_at_the_end(self):
        self.assert_no_picture("0: 1;", "0: 1; ", "-2: 0..3 5; 7: -1;", "-2: 0..3 5; 7: -1; ", "nothing;", "nothing; ")

    def test_nothing_with_more_beside_it(self):
        self.assert_no_picture("nothing: 1", "nothing; 0: 1", "0: 1; nothing", "0: 1 nothing", "nothing 0: 1",
                               "nothings", "nothin", "Nothing", "NOTHING", "no thing", "nothing\n", "none")

    def test_numbers_written_otherwise(self):
        wrong = ["00", "01", "-0", "-00", "-01", "+1", "1.0", "1e1", "0x1", "1_0", "one", "a", "--1", "-", "9" * 61,
                 "-" + "9" * 61, "\u0665", "\u00b2", "#", "(1)"]
        for number in wrong:
            self.assert_no_picture(f"{number}: 0", f"0: {number}", f"-20: 0; {number}: 0", f"0: -200..{number}",
                                   f"0: {number}..200", f"0: -200 {number}", f"0: -200 {number} 400",
                                   f"{number}: 0; 9: 0")

    def test_another_sign_between(self):
        self.assert_no_picture("0, 1", "0: 1,3", "0: 1, 3", "0: 1-2", "0: 1-", "0; 1", "0: 1: 2: 3", "0: 1, 2: 3",
                               "0: 1|2: 3", "0= 1", "0: 1..2!", "[0: 1]", "'0: 1'", "()", "((0, ((1, 1),)),)")

    def test_what_is_no_text(self):
        self.assert_no_picture(*NO_TEXTS)
        self.assert_no_picture(["nothing"], ("0: 0",), [0, 1], ((0, ((0, 3),)),))

    def test_each_sign_of_a_text_left_out_or_doubled_is_read_back_as_it_stands_or_refused(self):
        text = "-2: -10..3 5; 7: -1 11..205; 12: 0"
        for place in range(len(text)):
            for changed in [text[:place] + text[place + 1:], text[:place] + text[place] + text[place:]]:
                try:
                    picture = read(changed)
                except NoText:
                    continue
                self.assert_picture(picture)
                self.assertEqual(show(picture), changed)

    def test_what_is_refused_changes_nothing(self):
        handed_in = ["0: 0"]
        self.assert_no_picture(handed_in)
        self.assertEqual(handed_in, ["0: 0"])
        self.assert_same_picture(read("0: 0"), ((0, ((0, 0),)),))


if __name__ == "__main__":
    unittest.main()
