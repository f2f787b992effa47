"""Point 24, and the interface of slotwright/desk.py."""

import unittest

from samples import all_of, heavy_hall, history, looks, parameters, refused, sample_hall, sample_lot, short, with_frames
from slotwright.desk import say
from slotwright.errors import (
    BadEnds, BadLine, BadName, BadNumber, BadWay, Full, Heavy, InUse, Late, NoName, NoPlan, NoRoom, NoStep, Taken, Tight)
from slotwright.hall import Hall
from slotwright.pages import page

LINES = ("house b", "house a", "house c", "gate g", "gate h", "line k wire 2 from c,a to g", "line m wire 3 from g to b",
         "line n wire 0 from a to h", "line o wire 1 from h to b", "line p wire 1 from g to h", "line q wire 0 from c to b")


class DeskTest(unittest.TestCase):
    def done(self, hall, line):
        tried = hall.tried
        self.assertEqual(say(hall, line), "done")
        self.assertEqual(hall.tried, tried + 1)

    def no_deed(self, hall, line, error, **fields):
        """The line's deed is refused: it is counted, and all else is as it was."""
        before, rows, tried = looks(hall), history(hall), hall.tried
        refused(self, error, lambda: say(hall, line), **fields)
        self.assertEqual((looks(hall), history(hall), hall.tried), (before, rows, tried + 1))

    def no_line(self, hall, line, error=BadLine):
        """The line is refused in its reading: no deed is done, and none is counted."""
        before, rows = all_of(hall), history(hall)
        refused(self, error, lambda: say(hall, line))
        self.assertEqual((all_of(hall), history(hall)), (before, rows))


class Said(DeskTest):
    def test_arguments(self):
        self.assertEqual(parameters(say), "(hall, line)")
        self.assertEqual(say(line="page", hall=Hall()), "slack 0")

    def test_a_hall_that_is_said_line_by_line(self):
        hall = Hall()
        for line in LINES:
            self.done(hall, line)
        self.assertEqual(looks(hall), looks(sample_hall()))
        self.done(hall, "slack 1")
        for frame in sample_lot():
            self.done(hall, "put " + str(frame))
        self.assertEqual(looks(hall), looks(with_frames(*sample_lot(), slack=1)))
        self.assertEqual(say(hall, "page"), page(hall))
        self.assertEqual(hall.tried, 14)

    def test_squeeze_and_nudge(self):
        hall, other = sample_hall(), sample_hall()
        for word, frame in (("squeeze", short("p", 8, 2)), ("squeeze", short("r", 8, 2, release=4)),
                            ("nudge", short("s", 8, 4))):
            self.done(hall, word + " " + str(frame))
            getattr(other, word)(frame)
        self.assertEqual(all_of(hall), all_of(other))
        self.assertEqual(hall.moved(), ["p"])

    def test_take_drop_and_replan(self):
        hall = with_frames(*sample_lot(), short("z"), slack=1)
        self.done(hall, "take z")
        self.done(hall, "drop q")
        self.done(hall, "replan")
        self.done(hall, "drop p")
        self.done(hall, "slack 0")
        self.assertEqual([frame.name for frame in hall.frames_now()], ["x", "y"])
        self.assertNotIn("q", hall.net_now().names())
        self.assertEqual(hall.slack_now(), 0)

    def test_undo_and_redo(self):
        hall = Hall()
        self.done(hall, "house a")
        self.done(hall, "house b")
        self.assertEqual(say(hall, "undo"), "done")
        self.assertEqual(hall.net_now().names(), ["a"])
        self.assertEqual(say(hall, "redo"), "done")
        self.assertEqual(hall.net_now().names(), ["a", "b"])
        self.assertEqual(hall.tried, 2)
        self.no_line(hall, "redo", NoStep)
        say(hall, "undo")
        say(hall, "undo")
        self.no_line(hall, "undo", NoStep)

    def test_rows_of_a_frame(self):
        hall = with_frames(*sample_lot(), slack=1)
        before = all_of(hall)
        self.assertEqual(say(hall, "of x"), "turn x 0 13,19\nturn x 1 4,8")
        self.assertEqual(say(hall, "of y"), "turn y 0 0,5")
        self.assertEqual(all_of(hall), before)
        for name in ("z", "k", "X", "a,b", "xx", "."):
            refused(self, NoName, lambda: say(hall, "of " + name), name=name)
        self.assertEqual(all_of(hall), before)
        refused(self, NoName, lambda: say(Hall(), "of x"), name="x")

    def test_the_page_is_no_deed(self):
        hall = sample_hall()
        self.assertEqual(say(hall, "page"), page(hall))
        self.assertEqual(hall.tried, 11)


class DeedsRefused(DeskTest):
    def test_names_and_numbers_as_elsewhere(self):
        hall = sample_hall()
        for word in ("house", "gate"):
            for name in ("A", "abcdefghi", "a.b", "a,b", "0", ",", "~"):
                self.no_deed(hall, f"{word} {name}", BadName)
            self.no_deed(hall, word + " k", Taken, name="k")
        for name in ("z", "A", "abcdefghi", ","):
            self.no_deed(hall, "drop " + name, NoName, name=name)
            self.no_deed(hall, "take " + name, NoName, name=name)
        self.no_deed(hall, "drop a", InUse, name="k")
        for number in (31, 100, 999999):
            self.no_deed(hall, f"slack {number}", BadNumber)

    def test_lines(self):
        hall = sample_hall()
        for line, error, fields in (
                ("line Z wire 31 from z to z", BadName, {}), ("line a wire 31 from z to z", Taken, {"name": "a"}),
                ("line z wire 31 from a,a to z", BadEnds, {}), ("line z wire 1 from z to b,b", BadEnds, {}),
                ("line z wire 1 from , to b", BadEnds, {}), ("line z wire 1 from a to ,", BadEnds, {}),
                ("line z wire 1 from a,b,c,g,h,z,y to b", BadEnds, {}),
                ("line z wire 31 from a, to b", NoName, {"name": ""}), ("line z wire 1 from ,a to b", NoName, {"name": ""}),
                ("line z wire 1 from a,,b to b", NoName, {"name": ""}), ("line z wire 1 from a to b,", NoName, {"name": ""}),
                ("line z wire 31 from a to B", NoName, {"name": "B"}), ("line z wire 1 from k to b", NoName, {"name": "k"}),
                ("line z wire 31 from a to b", BadNumber, {}), ("line z wire 999999 from a to b", BadNumber, {})):
            self.no_deed(hall, line, error, **fields)
        self.done(hall, "line z wire 30 from c,a to b,a")
        self.assertEqual(hall.net_now().ends("z"), (("a", "c"), ("a", "b"), 30))

    def test_frames(self):
        hall = with_frames(short("p"), short("r"))
        for word in ("put", "squeeze", "nudge"):
            for frame, error, fields in (
                    (short("p"), Taken, {"name": "p"}), (short("z", 4, 5), Tight, {"name": "z"}),
                    (short("z", last=2), Late, {"name": "z", "least": 3})):
                self.no_deed(hall, f"{word} {frame}", error, **fields)
            self.no_deed(hall, word + " z every 8 long 1 release 0 last 8 by a.q.b", BadWay)
        self.no_deed(hall, f"put {short('s')}", NoPlan, lot=["p", "r", "s"])
        self.no_deed(hall, f"squeeze {short('s')}", NoRoom)
        self.no_deed(hall, f"nudge {short('s')}", NoRoom)
        self.no_deed(hall, "drop q", InUse, name="p")
        self.no_deed(hall, "slack 2", NoPlan, lot=["p", "r"])
        self.no_deed(hall, "slack 6", Tight, name="p")

    def test_full_and_heavy(self):
        hall = heavy_hall()
        for line in ("replan", "slack 0", f"put {short('t', 4, 1, last=480)}", f"nudge {short('t', 4, 1, last=480)}"):
            self.no_deed(hall, line, Heavy)
        hall = sample_hall()
        for name in "abcdefgh":
            self.done(hall, f"squeeze {short(name, 120, 1, last=100)}")
        self.no_deed(hall, f"squeeze {short('i', 120, 1)}", Full)


class LinesThatAreNone(DeskTest):
    def test_no_line(self):
        hall = with_frames(*sample_lot(), slack=1)
        for line in ("", " ", "  ", "done", "hall", "House z", "HOUSE z", "houses z", "house", "house ", "house  z", "house z ",
                     " house z", "house z y", "gate", "gate ", "gate z y", "drop", "drop ", "drop q ", "drop  q", "drop q p",
                     "take", "take ", "take x y", "take x ", "of", "of ", "of x ", "of  x", "of x 0", "page ", " page",
                     "page x", "pages", "undo ", " undo", "undo 1", "redo ", "redo x", "replan ", "replan x", " replan",
                     "replan.", "moved", "twin", "turn x 0 13,19", "frame z", "squeeze", "nudge", "put", "say page"):
            self.no_line(hall, line)

    def test_numbers(self):
        hall = sample_hall()
        for line in ("slack", "slack ", "slack x", "slack -1", "slack +1", "slack 01", "slack 00", "slack 1.0", "slack 1 ",
                     "slack  1", "slack 1 2", "slack 1000000", "slack 0000001", "slack 1,2"):
            self.no_line(hall, line)

    def test_lines_of_the_net(self):
        hall = sample_hall()
        for line in ("line", "line ", "line z", "line z wire 1", "line z wire 1 from a", "line z wire 1 from a to",
                     "line z wire 1 from a to ", "line z wire 1 from  to b", "line  wire 1 from a to b", "line z from a to b",
                     "line z wire x from a to b", "line z wire 01 from a to b", "line z wire -1 from a to b",
                     "line z wire 1000000 from a to b", "line z wire  from a to b", "line z wire 1 to b from a",
                     "line z wire 1 from a to b c", "line z wire 1 from a, c to b", "line z wire 1 from a to b ",
                     "line z  wire 1 from a to b", "line z Wire 1 from a to b", "line wire 1 from a to b",
                     "line A wire x from a,a to b"):
            self.no_line(hall, line)

    def test_texts_of_frames(self):
        hall = sample_hall()
        right = "every 8 long 1 release 0 last 8 by c.q.b"
        for word in ("put", "squeeze", "nudge"):
            for text in ("", " ", "z", "z " + right + " ", " z " + right, " " + right, right, "z  " + right, "z y " + right,
                         "z every 8 long 1 release 0 last 8 by", "z every 8 long 1 release 0 last 8 by ",
                         "z every 8 long 1 release 0 last 8 by c.q.b/", "z every 8 long 1 release 0 last 8 by c.q.b/c.q.b/c.q.b",
                         "z every 08 long 1 release 0 last 8 by c.q.b", "z every 8 long -1 release 0 last 8 by c.q.b",
                         "z every 8 long 1 release 0 last 1000000 by c.q.b", "z long 1 every 8 release 0 last 8 by c.q.b"):
                self.no_line(hall, word + " " + text)
            # Of the form, but no frame: refused as the frame is, and no deed either.
            self.no_line(hall, word + " Z " + right, BadName)
            self.no_line(hall, word + " z every 7 long 1 release 0 last 8 by c.q.b", BadNumber)
            self.no_line(hall, word + " z every 8 long 0 release 0 last 8 by c.q.b", BadNumber)
            self.no_line(hall, word + " z every 8 long 1 release 8 last 8 by c.q.b", BadNumber)
            self.no_line(hall, word + " z every 8 long 1 release 0 last 481 by c.q.b", BadNumber)
            self.no_line(hall, word + " z every 8 long 1 release 0 last 8 by c..b", BadWay)
            self.no_line(hall, word + " z every 8 long 1 release 0 last 8 by c.q", BadWay)
            self.no_line(hall, word + " z every 8 long 1 release 0 last 8 by c.q.b/c.q.b", BadWay)
            self.done(hall, word + " " + word[0] + " " + right)

    def test_they_forget_nothing(self):
        hall = with_frames(*sample_lot(), slack=1)
        hall.undo()
        self.no_line(hall, "house z y")
        self.assertEqual(say(hall, "redo"), "done")
        self.assertEqual([frame.name for frame in hall.frames_now()], ["x", "y"])


if __name__ == "__main__":
    unittest.main()
