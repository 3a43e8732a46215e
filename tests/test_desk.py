import itertools
import unittest

from helper import FAR, PictureCase
from shapethin.desk import Desk
from shapethin.drawings import read_drawn
from shapethin.errors import NoBack, NoForm, NoName, NoRow, NoText, TooGreat
from shapethin.forms import Box, Cross, Shape
from shapethin.holes import filled, holes
from shapethin.pictures import common, count_cells, either, join, less, moved, picture_of
from shapethin.pieces import pieces
from shapethin.texts import read, show
from shapethin.thin import thinned

A = "-2: 0..3 5; 7: -1"
B = "-2: 2..9; 7: -1..0"
RING = read_drawn(["####.", "#..#.", "####.", ".....", "..###", "..###"])
FAR_RING = moved(RING, FAR - 9, -FAR)
PICTURES = [(), ((0, ((0, 0),)),), read(A), RING, FAR_RING, ((0, ((-FAR, FAR),)), (1, ((5, 5),)))]

# Every deed but drop and back, by three names: x has A, y has B, z is the new one.
DEEDS = ["put z 0: 1..2", "join z x y", "common z x y", "less z x y", "either z x y", "greater z x box 1 0 0 1",
         "smaller z x cells 0: 0 2", "opened z x cross 0", "closed z x box 0 0 3 0", "thin z x", "fill z x"]
QUESTIONS = ["show x", "count x", "pieces x", "holes x", "same x y", "within x y", "names"]
BY_FORM = ["greater", "smaller", "opened", "closed"]
# How many words stand ahead of a TEXT or a FORM.
AHEAD = {"put": 2, "greater": 3, "smaller": 3, "opened": 3, "closed": 3}

NO_TEXTS = ["", " ", "nothing ", " nothing", "Nothing", "0:", "0: ", "0:1", "0: 1 ", " 0: 1", "0:  1", "0: 1  3",
            "0: 1 2", "0: 3 1", "0: 2..1", "0: 1..1", "0: 1.2", "0: 1...2", "0: 01", "0: -0", "-0: 1", "00: 1",
            "0: +1", "0: 1;", "0: 1; ", "0: 1;1: 1", "0: 1;  1: 1", "1: 1; 0: 1", "0: 1; 0: 3", "0: 1\n", "\n0: 1",
            "0: 1\n1: 1", "0: x", "a", "put", "0", "box 1 1 1 1", "cells 0: 1", "0: " + "1" * 61, "1" * 61 + ": 0",
            "0: 1..1" + "0" * 60]
NO_FORMS = ["", " ", "box", "box ", "box 1", "box 1 1 1", "box 1 1 1 ", "box 1 1 1 1 ", "box 1 1 1 1 1",
            "box  1 1 1 1", " box 1 1 1 1", "box 1 1  1 1", "Box 1 1 1 1", "boxes 1 1 1 1", "box 1 1 1 x",
            "box 01 1 1 1", "box 1 -0 1 1", "box +1 1 1 1", "box 1 1 1 1\n", "box 1\n1 1 1", "box,1,1,1,1",
            "box -1 1 1 1", "box 1 -1 1 1", "box 1 1 -1 1", "box 1 1 1 -1", f"box {FAR} 1 -1 {FAR}",
            "box 0 0 0 1" + "0" * 60, "box 1.0 1 1 1", "cross", "cross ", "cross 1 ", "cross  1", " cross 1",
            "cross 1 1", "cross 01", "cross -0", "cross -1", "cross x", "cross 1\n", "Cross 1", "crossing 1",
            "cross 1" + "0" * 60, f"cross -{FAR}", "1", "1 1 1 1", "cells", "cells ", "cells nothing", "cells  0: 1",
            " cells 0: 1", "cells 0: 1 ", "Cells 0: 1", "cells 0:1", "cells 0: 2 1", "cells 0: 1\n", "cells x",
            "cell 0: 1", "cells0: 1", "cells 0: " + "1" * 61, "nothing", "0: 1", "shape 0: 1",
            "sum box 1 1 1 1 cross 1", "x", "box 1 1 1 1; cross 1"]
NO_NAMES = ["", "abcdefghi", "a" * 60, "A", "aB", "Ab", "a1", "1", "0", "-", "a-b", "a_b", "a.b", "a\n", "\na", "a\nb",
            "a;", "~", "a:", "#", "{", "`"]


class DeskCase(PictureCase):
    def setUp(self):
        self.desk = Desk()

    def say(self, row):
        told = self.desk.say(row)
        self.assertIs(type(told), str)
        return told

    def ok(self, *rows):
        for row in rows:
            self.assertEqual(self.say(row), "ok", row)

    def put(self, name, picture):
        self.ok(f"put {name} {show(picture)}")

    def standing(self):
        names = self.say("names")
        return {name: self.say(f"show {name}") for name in names.split(" ")} if names else {}

    def refuse(self, refusal, row):
        """Refused so, and nothing is changed by it: neither what stands nor, in the end, what back takes back."""
        before = self.standing()
        with self.subTest(row=row):
            self.assert_refused(refusal, self.desk.say, row)
            self.assertEqual(self.standing(), before)

    def taken_back(self):
        """All that stood, deed by deed, back to the first one."""
        seen = [self.standing()]
        while True:
            try:
                self.ok("back")
            except NoBack:
                return seen
            seen.append(self.standing())


class Answers(DeskCase):
    def test_put_and_show(self):
        for text in ["nothing", "0: 0", A, B, f"{FAR}: {-FAR}..{FAR}", f"{-FAR}: 0 2 4..{FAR}"]:
            self.ok(f"put a {text}")
            self.assertEqual(self.say("show a"), text)

    def test_pictures_of_two(self):
        for word, make in [("join", join), ("common", common), ("less", less), ("either", either)]:
            for one, other in itertools.product(PICTURES, repeat=2):
                self.put("one", one)
                self.put("other", other)
                self.ok(f"{word} new one other")
                self.assertEqual(self.say("show new"), show(make(one, other)))
                self.assertEqual(self.say("show one"), show(one))
                self.assertEqual(self.say("show other"), show(other))

    def test_pictures_by_forms(self):
        forms = [("box 0 0 0 0", Box(0, 0, 0, 0)), ("box 1 2 3 4", Box(1, 2, 3, 4)), ("box 2 0 1 0", Box(2, 0, 1, 0)),
                 (f"box {FAR} 0 0 1", Box(FAR, 0, 0, 1)), (f"box 0 1 {FAR} 0", Box(0, 1, FAR, 0)),
                 ("cross 0", Cross(0)), ("cross 1", Cross(1)), ("cross 12", Cross(12)),
                 ("cells 0: 0", Shape(((0, ((0, 0),)),))), ("cells -2: 0..3 5; 7: -1", Shape(read(A))),
                 (f"cells {FAR}: {-FAR}", Shape(((FAR, ((-FAR, -FAR),)),)))]
        for (text, form), picture in itertools.product(forms, PICTURES):
            self.put("one", picture)
            for word, make in [("greater", form.greater), ("smaller", form.smaller), ("opened", form.opened),
                               ("closed", form.closed)]:
                self.ok(f"{word} new one {text}")
                self.assertEqual(self.say("show new"), show(make(picture)))
                self.assertEqual(self.say("show one"), show(picture))

    def test_thin_keeps_ends(self):
        line = read_drawn(["########", "########", "...#...."])
        self.assertNotEqual(thinned(line, True)[0], thinned(line, False)[0])
        for picture in [(), ((0, ((0, 0),)),), line, RING, FAR_RING,
                        picture_of([(y, 0, 24) for y in range(40)])]:
            self.put("one", picture)
            self.ok("thin new one")
            self.assertEqual(self.say("show new"), show(thinned(picture, True)[0]))

    def test_fill(self):
        for picture in PICTURES + [picture_of([(0, 0, FAR), (1, 0, 0), (1, FAR, FAR), (2, 0, FAR)])]:
            self.put("one", picture)
            self.ok("fill new one")
            self.assertEqual(self.say("show new"), show(filled(picture)))

    def test_counts(self):
        for picture in PICTURES:
            self.put("a", picture)
            self.assertEqual(self.say("count a"), str(count_cells(picture)))
            self.assertEqual(self.say("pieces a"), str(len(pieces(picture))))
            self.assertEqual(self.say("holes a"), str(len(holes(picture))))
        self.put("a", RING)
        self.assertEqual([self.say("count a"), self.say("pieces a"), self.say("holes a")], ["16", "2", "1"])
        self.ok(f"put a {FAR}: {-FAR}..{FAR}")
        self.assertEqual(self.say("count a"), str(2 * FAR + 1))
        self.ok("put a nothing")
        self.assertEqual([self.say("count a"), self.say("pieces a"), self.say("holes a")], ["0", "0", "0"])

    def test_same_and_within(self):
        self.ok("put a 0: 0..5", "put b 0: 1..5", "put c 0: 0..5", "put d nothing", "put e 1: 0..5")
        pairs = list(itertools.product("abcde", repeat=2))
        same = {pair for pair in pairs if self.say("same " + " ".join(pair)) == "yes"}
        self.assertEqual(same, {("a", "a"), ("b", "b"), ("c", "c"), ("d", "d"), ("e", "e"), ("a", "c"), ("c", "a")})
        within = {pair for pair in pairs if self.say("within " + " ".join(pair)) == "yes"}
        self.assertEqual(within, same | {("b", "a"), ("b", "c")} | {("d", other) for other in "abce"})
        for word, pair in itertools.product(("same", "within"), pairs):
            self.assertIn(self.say(f"{word} {pair[0]} {pair[1]}"), ("yes", "no"))

    def test_names(self):
        self.assertEqual(self.say("names"), "")
        self.ok("put b nothing")
        self.assertEqual(self.say("names"), "b")
        self.ok("put abcdefgh 0: 1", "put z 0: 1", "put a 0: 1", "put ab 0: 1", "put aa 0: 1", "put zzzzzzzz 0: 1")
        self.assertEqual(self.say("names"), "a aa ab abcdefgh b z zzzzzzzz")
        self.ok("drop ab", "drop a")
        self.assertEqual(self.say("names"), "aa abcdefgh b z zzzzzzzz")
        self.ok("drop aa", "drop abcdefgh", "drop z", "drop b", "drop zzzzzzzz")
        self.assertEqual(self.say("names"), "")

    def test_names_that_begin_alike(self):
        self.ok("put a 0: 1", "put ab 0: 2", "put abcdefgh 0: 3", "put abcdefg 0: 4")
        self.assertEqual([self.say("show " + name) for name in ("a", "ab", "abcdefgh", "abcdefg")],
                         ["0: 1", "0: 2", "0: 3", "0: 4"])
        self.refuse(NoName, "show abc")
        self.refuse(NoName, "show b")
        self.ok("drop ab")
        self.assertEqual(self.say("names"), "a abcdefg abcdefgh")

    def test_names_like_the_words_of_rows(self):
        for name in ["put", "join", "back", "names", "nothing", "box", "cross", "cells", "ok", "yes", "no", "show"]:
            self.ok(f"put {name} 0: 1", f"greater {name} {name} cross 1", f"drop {name}")
        self.ok("put put 0: 1", "join join put put", "drop put")
        self.assertEqual(self.standing(), {"join": "0: 1"})

    def test_drop(self):
        self.ok("put a 0: 1", "put b 0: 2", "drop a")
        self.assertEqual(self.standing(), {"b": "0: 2"})
        self.refuse(NoName, "drop a")
        self.refuse(NoName, "show a")
        self.ok("put a 0: 5")
        self.assertEqual(self.standing(), {"a": "0: 5", "b": "0: 2"})


class New(DeskCase):
    def test_a_name_that_stands_already(self):
        for deed in DEEDS:
            self.desk = Desk()
            self.ok(f"put x {A}", f"put y {B}", deed)
            expected = self.say("show z")
            self.desk = Desk()
            self.ok(f"put x {A}", f"put y {B}", "put z 99: 99", deed)
            self.assertEqual(self.standing(), {"x": A, "y": B, "z": expected})

    def test_the_same_name_as_one_or_other(self):
        for deed in DEEDS[1:]:
            self.desk = Desk()
            self.ok(f"put x {A}", f"put y {B}", deed)
            expected = self.say("show z")
            for name in ("x", "y"):
                if f" {name}" in deed[:deed.index(" z") + 6]:
                    self.desk = Desk()
                    self.ok(f"put x {A}", f"put y {B}", deed.replace(" z", f" {name}", 1))
                    self.assertEqual(self.standing(), {"x": A, "y": B, name: expected})
                    self.ok("back")
                    self.assertEqual(self.standing(), {"x": A, "y": B})

    def test_all_three_the_same(self):
        for word, expected in [("join", A), ("common", A), ("less", "nothing"), ("either", "nothing")]:
            self.ok(f"put x {A}", f"{word} x x x")
            self.assertEqual(self.standing(), {"x": expected})

    def test_what_was_made_stays_when_its_parts_change(self):
        self.ok("put a 0: 1", "put b 0: 3", "join c a b", "put a 5: 5", "drop b")
        self.assertEqual(self.standing(), {"a": "5: 5", "c": "0: 1 3"})


class NoRows(DeskCase):
    def setUp(self):
        self.desk = Desk()
        self.ok(f"put x {A}", f"put y {B}")

    def test_what_is_no_text(self):
        for thing in [None, 0, 5, -1, FAR, True, False, (), [], {}, ["names"], ("names",), {"names": 1}, b"names", 1.5,
                      object(), Desk(), Desk, ["show", "x"]]:
            self.refuse(NoRow, thing)

    def test_no_word_or_an_unknown_one(self):
        for row in ["", " ", "  ", "\n", "x", "x y", "Names", "NAMES", "name", "namess", "shows x", "sho x", "Show x",
                    "say x", "undo", "names;", "turned z x", "moved z x 1 1", "corners x", "put\nz 0: 1", "0: 1", A,
                    "~", "ok", "help", "back\n", "names\n", "\nnames", "-", "show\tx"]:
            self.refuse(NoRow, row)

    def test_each_blank_and_line_end_too_many(self):
        for row in DEEDS + QUESTIONS + ["back", "drop x"]:
            words = row.split(" ")
            ahead = AHEAD.get(words[0], len(words))
            for place in range(ahead):
                self.refuse(NoRow, " ".join(words[:place] + [""] + words[place:]))
                self.refuse(NoRow, " ".join(words[:place] + [words[place] + "\n"] + words[place + 1:]))
                self.refuse(NoRow, " ".join(words[:place] + ["\n" + words[place]] + words[place + 1:]))
            for place in range(1, min(ahead + 1, len(words))):
                self.refuse(NoRow, " ".join(words[:place]) + "\n" + " ".join(words[place:]))
            if ahead == len(words):
                self.refuse(NoRow, row + " ")
                self.refuse(NoRow, row + "  ")
                self.refuse(NoRow, row + " \n")

    def test_words_too_many(self):
        for row in ["join z x y x", "common z x y x", "less z x y x", "either z x y x", "thin z x y", "fill z x y",
                    "drop x y", "back x", "show x y", "count x y", "pieces x y", "holes x y", "same x y x",
                    "within x y x", "names x", "back 1", "thin z x True", "show x x", "back back", "names names"]:
            self.refuse(NoRow, row)

    def test_words_too_few(self):
        for row in ["put", "put z", "join", "join z", "join z x", "common z x", "less z x", "either z x", "greater",
                    "greater z", "greater z x", "smaller z x", "opened z x", "closed z x", "thin", "thin z", "fill",
                    "fill z", "drop", "show", "count", "pieces", "holes", "same", "same x", "within", "within x",
                    "put ", "drop ", "show ", "thin z ", "join z x ", "greater z ", "greater "]:
            self.refuse(NoRow, row)

    def test_what_is_no_name_in_each_name_s_place(self):
        for name in NO_NAMES:
            for row in ["put {} 0: 1", "join {} x y", "join z {} y", "join z x {}", "common {} x y", "common z {} y",
                        "common z x {}", "less {} x y", "less z {} y", "less z x {}", "either {} x y", "either z {} y",
                        "either z x {}", "greater {} x cross 1", "greater z {} cross 1", "smaller {} x cross 1",
                        "smaller z {} cross 1", "opened {} x cross 1", "opened z {} cross 1", "closed {} x cross 1",
                        "closed z {} cross 1", "thin {} x", "thin z {}", "fill {} x", "fill z {}", "drop {}",
                        "show {}", "count {}", "pieces {}", "holes {}", "same {} y", "same x {}", "within {} y",
                        "within x {}"]:
                self.refuse(NoRow, row.replace("{}", name))


class Order(DeskCase):
    def setUp(self):
        self.desk = Desk()
        self.ok(f"put x {A}", f"put y {B}")

    def test_names_by_which_nothing_stands(self):
        for row in ["join z a y", "join z x a", "join a a a", "common z a y", "common z x a", "less z a y",
                    "less z x a", "either z a y", "either z x a", "greater z a cross 1", "greater a a cross 1",
                    "smaller z a cross 1", "opened z a cross 1", "closed z a cross 1", "thin z a", "thin a a",
                    "fill z a", "fill a a", "drop a", "show a", "count a", "pieces a", "holes a", "same a y",
                    "same x a", "same a a", "within a y", "within x a", "show xx", "show abcdefgh", "show show"]:
            self.refuse(NoName, row)

    def test_no_row_comes_first(self):
        for row in ["join A a a", "join z a A", "join z A a", "same a A", "greater Z a none", "greater z A none",
                    "greater z a", "put Z none", "put Z", "thin Z a", "show a ", "drop a a", "within a",
                    "smaller z a1 ", "closed abcdefghi a box -1 1 1 1", "put abcdefghi "]:
            self.refuse(NoRow, row)

    def test_then_no_name(self):
        for word, form in itertools.product(BY_FORM, NO_FORMS):
            self.refuse(NoName, f"{word} z a {form}")
            self.refuse(NoName, f"{word} a a {form}")

    def test_texts_that_are_none(self):
        for text in NO_TEXTS:
            self.refuse(NoText, f"put z {text}")
            self.refuse(NoText, f"put x {text}")

    def test_forms_that_are_none(self):
        for word, form in itertools.product(BY_FORM, NO_FORMS):
            self.refuse(NoForm, f"{word} z x {form}")
            self.refuse(NoForm, f"{word} x x {form}")

    def test_thin_of_too_many_cells(self):
        self.ok("put x 0: 1..1001", f"put y 0: {-FAR}..{FAR}")
        self.refuse(TooGreat, "thin z x")
        self.refuse(TooGreat, "thin x x")
        self.refuse(TooGreat, "thin y x")
        self.refuse(TooGreat, "thin z y")
        self.refuse(NoName, "thin z a")
        self.refuse(NoRow, "thin z x x")
        self.ok("put x 0: 1..1000", "thin z x")
        self.assertEqual(self.say("show z"), "0: 1..1000")

    def test_what_is_refused_is_not_taken_back(self):
        for row in ["", "names x", "put Z 0: 1", "put x none", "put z ", "greater z x none", "greater x x cross -1",
                    "drop z", "show z", "thin z a", "join x x z"]:
            with self.assertRaises(ValueError):
                self.desk.say(row)
        self.assertEqual(self.taken_back(), [{"x": A, "y": B}, {"x": A}, {}])

    def test_texts_go_on_with_all_their_blanks(self):
        self.ok("put z 0: 1 3 5..6; 9: -4 7", "greater z z cells 0: 0 2; 1: 5")
        self.assertEqual(self.say("show z"), show(Shape(read("0: 0 2; 1: 5")).greater(read("0: 1 3 5..6; 9: -4 7"))))


class Back(DeskCase):
    def test_nothing_to_take_back(self):
        self.refuse(NoBack, "back")
        self.refuse(NoBack, "back")
        self.ok("put a 0: 1", "back")
        self.refuse(NoBack, "back")
        self.assertEqual(self.standing(), {})

    def test_each_deed(self):
        for deed in DEEDS + ["drop x"]:
            for ahead in ([], ["put z 99: 99"]):
                self.desk = Desk()
                self.ok(f"put x {A}", f"put y {B}", *ahead)
                before = self.standing()
                self.ok(deed)
                self.assertNotEqual(self.standing(), before)
                self.ok("back")
                self.assertEqual(self.standing(), before)

    def test_all_of_them(self):
        seen = [self.standing()]
        for deed in [f"put x {A}", f"put y {B}"] + DEEDS + ["drop x", "put x 3: 3", "drop z", "drop y", "put z 1: 1"]:
            self.ok(deed)
            seen.append(self.standing())
        self.assertEqual(self.taken_back(), seen[::-1])

    def test_a_put_of_what_stood_already(self):
        self.ok("put a 0: 1", "put a 0: 2", "put a 0: 2", "put a 0: 2")
        self.assertEqual(self.taken_back(), [{"a": "0: 2"}] * 3 + [{"a": "0: 1"}, {}])

    def test_other_deeds_that_leave_what_stood(self):
        self.ok("put a 0: 1", "join a a a", "greater a a box 0 0 0 0", "fill a a", "thin a a")
        self.assertEqual(self.taken_back(), [{"a": "0: 1"}] * 5 + [{}])

    def test_the_picture_without_cells_stands_again(self):
        self.ok("put a nothing", "put a 0: 1", "back")
        self.assertEqual(self.standing(), {"a": "nothing"})
        self.ok("drop a")
        self.assertEqual(self.standing(), {})
        self.ok("back")
        self.assertEqual(self.standing(), {"a": "nothing"})
        self.ok("back")
        self.assertEqual(self.standing(), {})

    def test_a_drop(self):
        self.ok("put a 0: 1", "put b 0: 2", "drop a", "drop b", "put a 0: 3")
        self.assertEqual(self.taken_back(), [{"a": "0: 3"}, {}, {"b": "0: 2"}, {"a": "0: 1", "b": "0: 2"},
                                             {"a": "0: 1"}, {}])

    def test_questions_are_no_deeds(self):
        self.ok(f"put x {A}", f"put y {B}")
        for question in QUESTIONS * 2:
            self.say(question)
        self.ok("back")
        self.assertEqual(self.standing(), {"x": A})

    def test_back_is_no_deed(self):
        self.ok("put a 0: 1", "put a 0: 2", "put a 0: 3", "back", "back")
        self.assertEqual(self.standing(), {"a": "0: 1"})
        self.ok("put a 0: 4", "back")
        self.assertEqual(self.standing(), {"a": "0: 1"})
        self.ok("back")
        self.refuse(NoBack, "back")

    def test_a_refused_back_changes_nothing(self):
        self.ok("put a 0: 1", "back")
        self.refuse(NoBack, "back")
        self.ok("put a 0: 2")
        self.assertEqual(self.taken_back(), [{"a": "0: 2"}, {}])

    def test_many_deeds(self):
        for number in range(3000):
            self.ok(f"put a 0: {number}")
        for number in range(2998, -1, -1):
            self.ok("back")
            self.assertEqual(self.say("show a"), f"0: {number}")


class Desks(DeskCase):
    def test_two_side_by_side(self):
        one, other = Desk(), Desk()
        self.assertEqual(one.say("put a 0: 1"), "ok")
        self.assertEqual(other.say("names"), "")
        self.assert_refused(NoName, other.say, "show a")
        self.assert_refused(NoBack, other.say, "back")
        self.assertEqual(other.say("put a 0: 2"), "ok")
        self.assertEqual(other.say("put b 0: 3"), "ok")
        self.assertEqual([one.say("names"), one.say("show a")], ["a", "0: 1"])
        self.assertEqual(one.say("back"), "ok")
        self.assertEqual([one.say("names"), other.say("names"), other.say("show a")], ["", "a b", "0: 2"])
        self.assertEqual(other.say("drop a"), "ok")
        self.assert_refused(NoBack, one.say, "back")
        self.assertEqual(other.say("back"), "ok")
        self.assertEqual([Desk().say("names"), other.say("names")], ["", "a b"])

    def test_by_name(self):
        self.assertEqual(Desk().say(row="names"), "")

    def test_ten_thousand_stretches(self):
        many = picture_of([(y, 3 * x, 3 * x + 1) for x in range(100) for y in range(0, 200, 2)])
        self.put("a", many)
        self.assertEqual(self.say("show a"), show(many))
        self.assertEqual([self.say("count a"), self.say("pieces a")], ["20000", "10000"])
        self.ok("closed b a box 1 0 1 0", "less c b a")
        self.assertEqual([self.say("count b"), self.say("pieces c"), self.say("within c b")], ["29900", "9900", "yes"])

    def test_numbers_grow_beyond_sixty_figures(self):
        self.ok(f"put a {FAR}: {FAR}", f"greater a a cells {FAR}: {FAR}", f"greater a a box 0 0 {FAR} 0")
        self.assertEqual(self.say("show a"), f"{2 * FAR}: {2 * FAR}..{3 * FAR}")
        self.ok("fill b a")
        self.assertEqual(self.say("same a b"), "yes")
        self.refuse(NoText, "put b " + self.say("show a"))


if __name__ == "__main__":
    unittest.main()
