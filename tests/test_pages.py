"""Point 23, point 5 where a page leans on it, and the interface of slotwright/pages.py."""

import random
import unittest

from samples import (
    LOWER, OTHER, SHORT, UPPER, heavy_hall, looks, parameters, refused, sample_hall, sample_lot, short, with_frames)
from slotwright.errors import BadPage, NetError, NoStep
from slotwright.frames import Frame
from slotwright.hall import Hall
from slotwright.pages import page, read_page, row_text
from slotwright.tables import faults

PAGE = """slack 1
house a
house b
house c
gate g
gate h
line k wire 2 from a,c to g
line m wire 3 from g to b
line n wire 0 from a to h
line o wire 1 from h to b
line p wire 1 from g to h
line q wire 0 from c to b
frame x every 20 long 3 release 4 last 30 by a.k.g.m.b/a.n.h.o.b
frame y every 30 long 2 release 0 last 25 by c.k.g.m.b
turn x 0 13,19
turn x 1 4,8
turn y 0 0,5"""


class PageTest(unittest.TestCase):
    def look_over(self, text):
        """The hall of a page: without history, and with the same page."""
        hall = read_page(text)
        self.assertIsInstance(hall, Hall)
        self.assertEqual(page(hall), text)
        self.assertEqual((hall.tried, hall.moved()), (0, []))
        refused(self, NoStep, hall.undo)
        refused(self, NoStep, hall.redo)
        self.assertEqual(faults(hall.net_now(), hall.frames_now(), hall.table_now(), slack=hall.slack_now()), [])
        return hall

    def bad(self, text):
        refused(self, BadPage, lambda: read_page(text))

    def bad_with(self, old, new, text=PAGE):
        """The page is refused where these signs stand in it otherwise."""
        self.assertEqual(text.count(old), 1, old)
        self.bad(text.replace(old, new))


class Interface(unittest.TestCase):
    def test_arguments(self):
        self.assertEqual(parameters(page), "(hall)")
        self.assertEqual(parameters(read_page), "(text)")
        self.assertEqual(parameters(row_text), "(row)")
        self.assertEqual(page(hall=read_page(text=PAGE)), PAGE)

    def test_rows_of_a_timetable(self):
        self.assertEqual(row_text(("x", 0, (13, 19))), "turn x 0 13,19")
        self.assertEqual(row_text(("abc", 1, (0,))), "turn abc 1 0")
        self.assertEqual(row_text(row=("w", 0, (1, 20, 300))), "turn w 0 1,20,300")


class Written(PageTest):
    def test_an_empty_hall(self):
        self.assertEqual(page(Hall()), "slack 0")
        self.assertEqual(page(Hall(slack=30)), "slack 30")

    def test_everything_in_it(self):
        self.assertEqual(page(with_frames(*sample_lot(), slack=1)), PAGE)

    def test_each_kind_in_the_order_of_names(self):
        hall = Hall()
        for name in ("b", "ab", "a"):
            hall.house(name)
        for name in ("z", "aa", "c"):
            hall.gate(name)
        hall.line("y", ("z", "a", "ab"), ("c", "b"), wire=30)
        hall.line("d", ("a",), ("b",))
        hall.line("ac", ("a",), ("b",))
        hall.squeeze(Frame("y", (("a", "d", "b"),), every=120))
        hall.squeeze(Frame("x", (("a", "d", "b"), ("a", "ac", "b")), every=120))
        self.assertEqual(page(hall), "\n".join([
            "slack 0", "house a", "house ab", "house b", "gate aa", "gate c", "gate z", "line ac wire 1 from a to b",
            "line d wire 1 from a to b", "line y wire 30 from a,ab,z to b,c",
            "frame x every 120 long 1 release 0 last 480 by a.d.b/a.ac.b",
            "frame y every 120 long 1 release 0 last 480 by a.d.b", "turn x 0 1", "turn x 1 0", "turn y 0 0"]))

    def test_a_page_changes_nothing(self):
        hall = with_frames(*sample_lot(), slack=1)
        before, tried = looks(hall), hall.tried
        page(hall)
        self.assertEqual((looks(hall), hall.tried), (before, tried))


class Read(PageTest):
    def test_everything_in_it(self):
        hall, other = self.look_over(PAGE), with_frames(*sample_lot(), slack=1)
        self.assertEqual(looks(hall), looks(other))

    def test_an_empty_hall(self):
        self.assertEqual(looks(self.look_over("slack 0")), looks(Hall()))
        self.assertEqual(self.look_over("slack 30").slack_now(), 30)

    def test_a_hall_that_is_read_goes_on(self):
        hall = self.look_over(PAGE)
        hall.squeeze(short("z"))
        hall.take("y")
        hall.drop("p")
        self.assertEqual(hall.tried, 3)
        for turn in range(3):
            hall.undo()
        self.assertEqual(page(hall), PAGE)
        refused(self, NoStep, hall.undo)
        hall.redo()
        self.assertEqual(hall.table_now().of("z"), (0,))

    def test_the_history_of_a_hall_is_not_on_its_page(self):
        hall = with_frames(*sample_lot(), slack=1)
        hall.house("z")
        hall.undo()
        self.assertEqual(looks(self.look_over(page(hall))), looks(hall))

    def test_right_but_not_planned(self):
        text = PAGE.replace("turn x 1 4,8", "turn x 1 5,29").replace("turn y 0 0,5", "turn y 0 0,6").replace("13,19", "13,20")
        hall = self.look_over(text)
        self.assertEqual(hall.table_now().of("x", 1), (5, 29))
        hall.replan()
        self.assertEqual(page(hall), PAGE)
        self.assertEqual(hall.moved(), ["x", "y"])

    def test_a_lot_too_heavy_to_be_planned(self):
        self.look_over(page(heavy_hall()))

    def test_random_halls(self):
        chance = random.Random(23)
        for run in range(60):
            hall = sample_hall(chance.randint(0, 2))
            for turn in range(5):
                frame = Frame(chance.choice("rstuv"), chance.choice(((UPPER,), (OTHER,), (SHORT,), (UPPER, LOWER))),
                              every=chance.choice((20, 24, 30)), long=chance.randint(1, 3), release=chance.randint(0, 6),
                              last=chance.randint(14, 30))
                try:
                    chance.choice((hall.put, hall.squeeze, hall.nudge))(frame)
                except NetError:
                    pass
            self.assertEqual(looks(self.look_over(page(hall))), looks(hall))

    def test_full_nets(self):
        hall = Hall()
        for letter in "abcdefghijklmnop":
            hall.house("z" + letter)
        for letter in "abcdefghijklmnop":
            hall.line("y" + letter, ("za", "zb", "zc", "zd", "ze", "zf"), ("za",))
        text = page(hall)
        self.look_over(text)
        self.bad(text.replace("house zp", "house zp\nhouse zq"))
        self.bad(text + "\nline yq wire 1 from za to za")


class Refused(PageTest):
    def test_no_page_at_all(self):
        for text in ("", "\n", " ", "slack", "slack ", "slack  0", "slack x", "slack 0 ", " slack 0", "slack 0\n", "\nslack 0",
                     "slack 00", "slack +0", "slack -1", "slack 31", "slack 1000000", "Slack 0", "slack 0 0", "page",
                     "house a", "slack 0\nslack 0", "slack 0\nslack 1", "slack 0\n\nhouse a", "slack 0,house a"):
            self.bad(text)

    def test_rows_in_another_order(self):
        rows = PAGE.split("\n")
        for at in range(len(rows) - 1):
            self.bad("\n".join(rows[:at] + [rows[at + 1], rows[at]] + rows[at + 2:]))
        self.bad("\n".join(rows[1:] + rows[:1]))

    def test_rows_left_out(self):
        rows = PAGE.split("\n")
        # Without the row of a line that no frame goes by, or without a frame and its rows, it is a page of another hall.
        for at, row in enumerate(rows):
            if row.split()[1] not in ("p", "q"):
                self.bad("\n".join(rows[:at] + rows[at + 1:]))
        self.look_over("\n".join(row for row in rows if row.split()[1] not in ("p", "y")))

    def test_rows_twice(self):
        rows = PAGE.split("\n")
        for at, row in enumerate(rows):
            self.bad("\n".join(rows[:at] + [row] + rows[at:]))

    def test_rows_of_no_kind(self):
        for row in ("", " ", "note", "note a", "houses z", "House z", "tried 0", "take x", "turn", "frame", "line", "gate",
                    "house", "put y"):
            self.bad(PAGE + "\n" + row)

    def test_blanks_and_line_feeds(self):
        for text in (PAGE + "\n", "\n" + PAGE, PAGE + " ", PAGE.replace("\n", "\n\n"), PAGE.replace("\n", " \n"),
                     PAGE.replace("\n", "\n ")):
            self.bad(text)
        self.bad_with("house a", "house  a")
        self.bad_with("line k wire", "line  k wire")
        self.bad_with("turn x 0 13,19", "turn x 0 13, 19")
        self.bad_with("turn y 0", "turn  y 0")
        self.bad_with("frame y", "frame  y")

    def test_names(self):
        for old, new in (("house a", "house A"), ("house a", "house abcdefghi"), ("house a", "house "), ("gate g", "gate g2"),
                         ("house a", "house b"), ("gate g", "gate a"), ("line q", "line a"), ("line q", "line Q"),
                         ("line q", "line k"), ("frame y", "frame Y"), ("turn y", "turn z"), ("house c", "house d")):
            self.bad_with(old, new)

    def test_lines(self):
        for new in ("line p wire 31 from g to h", "line p wire x from g to h", "line p wire 01 from g to h",
                    "line p wire -1 from g to h", "line p wire 1 from  to h", "line p wire 1 from g to ",
                    "line p wire 1 from g to", "line p wire 1 from g", "line p wire 1 to h from g", "line p from g to h",
                    "line p wire 1 from g,g to h", "line p wire 1 from g, to h", "line p wire 1 from ,g to h",
                    "line p wire 1 from g to z", "line p wire 1 from k to h", "line p wire 1 from g to h,g",
                    "line p wire 1 from g to h more", "line p wire 1 from g.h to h", "line p Wire 1 from g to h"):
            self.bad_with("line p wire 1 from g to h", new)
        self.look_over(PAGE.replace("line p wire 1 from g to h", "line p wire 30 from a,g to g,h"))

    def test_frames(self):
        text = "frame y every 30 long 2 release 0 last 25 by c.k.g.m.b"
        for new in ("frame y every 31 long 2 release 0 last 25 by c.k.g.m.b", "frame y every 30 long 31 release 0 last 25 by "
                    "c.k.g.m.b", "frame y every 30 long 2 release 30 last 25 by c.k.g.m.b", "frame y every 30 long 2 release 0 "
                    "last 481 by c.k.g.m.b", "frame y every 30 long 2 release 0 last 25 by c.k.g.m", "frame y", "frame ",
                    "frame y every 30 long 2 release 00 last 25 by c.k.g.m.b", "frame y every 30 long 2 release 0 last 25 by "
                    "c.k.g.m.b/", "frame y long 2 every 30 release 0 last 25 by c.k.g.m.b", "frame x every 30 long 2 release 0 "
                    "last 25 by c.k.g.m.b"):
            self.bad_with(text, new)

    def test_lots(self):
        # It does not lie in the net, is too tight, or cannot come in time.
        self.bad_with("by c.k.g.m.b", "by c.k.h.m.b")
        self.bad_with("by c.k.g.m.b", "by c.n.g.m.b")
        self.bad_with("frame y every 30 long 2", "frame y every 30 long 30")
        self.bad_with("last 25", "last 10")
        many = "\n".join(["slack 0", "house b", "house c", "line q wire 0 from c to b"]
                         + [f"frame {name} every 120 long 1 release 0 last 480 by c.q.b" for name in "abcdefghi"]
                         + [f"turn {name} 0 {at}" for at, name in enumerate("abcdefghi")])
        self.bad(many)
        self.look_over("\n".join(row for row in many.split("\n") if row.split()[1] != "i"))

    def test_timetables_that_are_not_right(self):
        # Early, hurried, late, and meeting another.
        for old, new in (("turn x 1 4,8", "turn x 1 3,8"), ("turn x 1 4,8", "turn x 1 4,7"), ("turn x 1 4,8", "turn x 1 4,30"),
                         ("turn y 0 0,5", "turn y 0 4,13"), ("turn y 0 0,5", "turn y 0 0,10"),
                         ("turn y 0 0,5", "turn y 0 6,13")):
            self.bad_with(old, new)
        self.look_over(PAGE.replace("turn x 1 4,8", "turn x 1 4,29"))
        self.bad_with("slack 1", "slack 2")

    def test_rows_of_a_timetable(self):
        for new in ("turn y 0 0", "turn y 0 0,5,9", "turn y 0 ", "turn y 0", "turn y 0 0,", "turn y 0 ,5", "turn y 0 0,05",
                    "turn y 0 0,+5", "turn y 0 -1,5", "turn y 0 0,5 9", "turn y 1 0,5", "turn y 2 0,5", "turn y 00 0,5",
                    "turn y x 0,5", "turn y 0 0.5", "turn y 0 0,0000005", "turn 0 0,5"):
            self.bad_with("turn y 0 0,5", new)
        for more in ("turn y 1 0,5", "turn z 0 0,5", "turn y 0 0,5", "turn y 0 0,6"):
            self.bad(PAGE + "\n" + more)

    def test_a_page_with_one_sign_otherwise(self):
        chance, found = random.Random(29), 0
        for run in range(1500):
            at = chance.randrange(len(PAGE))
            sign = chance.choice("abx019 ,./\n")
            text = chance.choice((PAGE[:at] + sign + PAGE[at + 1:], PAGE[:at] + PAGE[at + 1:], PAGE[:at] + sign + PAGE[at:]))
            try:
                hall = read_page(text)
            except BadPage:
                found += 1
                continue
            self.assertEqual(page(hall), text)
        self.assertGreater(found, 1000)


if __name__ == "__main__":
    unittest.main()
