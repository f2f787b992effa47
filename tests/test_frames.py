"""Points 4 and 5, the first sentence of point 6, and the interface of slotwright/frames.py."""

import itertools
import unittest

from slotwright.errors import BadLine, BadName, BadNumber, BadWay
from slotwright.frames import Frame, lies, read_frame
from slotwright.net import Net
from slotwright.spans import LAST, ROUNDS

SHORT = ("a", "k", "b")
MIDDLE = ("a", "l", "g", "m", "b")
LONG = ("a", "n", "h", "o", "i", "p", "b")
BAD_WAYS = (
    (), (("a", "k", "b", "c"),), ((),), (("a",),), (("a", "b"),), (LONG + ("q", "c"),), (("a", "k", "g", "l", "h", "b"),),
    (SHORT, MIDDLE, LONG), (SHORT, SHORT),
    (("a", "k", "a"),), (("a", "a", "b"),), (("a", "k", "k"),), (("a", "k", "g", "k", "b"),), (("a", "k", "a", "l", "b"),),
    (("a", "K", "b"),), (("", "k", "b"),), (("a", "k", ""),), (("a", "k", "abcdefghi"),), (("a", "k 1", "b"),),
    (SHORT, ("a", "K", "b")), (("a", "k"), SHORT), (SHORT, ("a", "l", "g", "b")), (SHORT, ()),
    (MIDDLE, ("a", "m", "b")), (MIDDLE, ("a", "n", "g", "o", "b")), (MIDDLE, ("a", "m", "h", "l", "b")),
    (SHORT, ("a", "l", "c")), (SHORT, ("c", "l", "b")), (SHORT, ("b", "l", "a")), (SHORT, ("c", "l", "d")),
)
GOOD_WAYS = ((SHORT,), (MIDDLE,), (LONG,), (SHORT, MIDDLE), (MIDDLE, LONG), (LONG, SHORT), (SHORT, ("a", "l", "b")))


def frame(name="f", ways=(SHORT,), every=10, long=2, release=3, last=50):
    return Frame(name, ways, every=every, long=long, release=release, last=last)


def fields(told):
    return told.name, told.ways, told.every, told.long, told.release, told.last


class FrameTest(unittest.TestCase):
    def refused(self, error, deed):
        with self.assertRaises(error) as caught:
            deed()
        self.assertIs(caught.exception.__class__, error)


class Fields(FrameTest):
    def test_six_fields(self):
        told = frame(ways=(SHORT, MIDDLE))
        self.assertEqual(fields(told), ("f", (SHORT, MIDDLE), 10, 2, 3, 50))

    def test_defaults(self):
        told = Frame("f", (SHORT,), every=4)
        self.assertEqual(fields(told), ("f", (SHORT,), 4, 1, 0, LAST))

    def test_numbers_are_handed_in_by_name(self):
        with self.assertRaises(TypeError):
            Frame("f", (SHORT,), 4)
        with self.assertRaises(TypeError):
            Frame("f", (SHORT,))

    def test_good_ways(self):
        for ways in GOOD_WAYS:
            self.assertEqual(frame(ways=ways).ways, ways)

    def test_names(self):
        for name in ("a", "z", "abcdefgh"):
            self.assertEqual(frame(name=name).name, name)
        for name in ("", "A", "f1", "a b", "abcdefghi", "a.b"):
            self.refused(BadName, lambda: frame(name=name))

    def test_a_frame_may_have_a_name_of_its_way(self):
        self.assertEqual(frame(name="k").name, "k")

    def test_bad_ways(self):
        for ways in BAD_WAYS:
            with self.subTest(ways=ways):
                self.refused(BadWay, lambda: frame(ways=ways))

    def test_rounds(self):
        for every in range(-130, 250):
            if every in ROUNDS:
                self.assertEqual(frame(every=every, release=0).every, every)
            else:
                self.refused(BadNumber, lambda: frame(every=every, release=0))

    def test_lengths(self):
        for long in (1, 2, 29, 30):
            self.assertEqual(frame(long=long).long, long)
        for long in (0, 31, -1, 10 ** 30, -10 ** 30):
            self.refused(BadNumber, lambda: frame(long=long))

    def test_a_length_may_be_above_the_round(self):
        self.assertEqual(frame(every=4, long=30).long, 30)

    def test_releases(self):
        for every in ROUNDS:
            for release in (0, 1, every - 1):
                self.assertEqual(frame(every=every, release=release).release, release)
            for release in (-1, every, every + 1, 10 ** 30):
                self.refused(BadNumber, lambda: frame(every=every, release=release))

    def test_last_times(self):
        for last in (1, 2, 479, 480):
            self.assertEqual(frame(last=last).last, last)
        for last in (0, -1, 481, 10 ** 30):
            self.refused(BadNumber, lambda: frame(last=last))

    def test_true_and_false_are_no_numbers(self):
        for value in (True, False):
            self.refused(BadNumber, lambda: frame(every=value, release=0))
            self.refused(BadNumber, lambda: frame(long=value))
            self.refused(BadNumber, lambda: frame(release=value))
            self.refused(BadNumber, lambda: frame(last=value))

    def test_what_is_told_first_goes_first(self):
        wrongs = {"every": 7, "long": 0, "release": -1, "last": 481}
        numbers = [{}] + [dict(some) for many in (1, 2, 3, 4) for some in itertools.combinations(wrongs.items(), many)]
        for wrong in numbers:
            self.refused(BadName, lambda: frame(name="F", **wrong))
            self.refused(BadName, lambda: frame(name="F", ways=(), **wrong))
            self.refused(BadWay, lambda: frame(ways=(("a", "K", "b"),), **wrong))
            if wrong:
                self.refused(BadNumber, lambda: frame(**wrong))

    def test_a_release_beside_a_bad_round(self):
        self.refused(BadNumber, lambda: frame(every=7, release=8))
        self.refused(BadNumber, lambda: frame(every=False, release=True))


class Equality(FrameTest):
    def test_all_fields_alike(self):
        self.assertTrue(frame() == frame())
        self.assertFalse(frame() != frame())
        self.assertTrue(Frame("f", (SHORT,), every=4) == Frame("f", (SHORT,), last=480, release=0, long=1, every=4))

    def test_one_field_otherwise(self):
        others = (frame(name="e"), frame(ways=(MIDDLE,)), frame(every=12), frame(long=3), frame(release=2), frame(last=51))
        for other in others:
            self.assertTrue(frame() != other)
            self.assertFalse(frame() == other)
            self.assertFalse(other == frame())

    def test_ways_in_another_order(self):
        self.assertTrue(frame(ways=(SHORT, MIDDLE)) != frame(ways=(MIDDLE, SHORT)))

    def test_a_frame_equals_nothing_else(self):
        for other in (str(frame()), "f", 0, None, fields(frame()), Net()):
            self.assertFalse(frame() == other)
            self.assertTrue(frame() != other)


class Texts(FrameTest):
    def test_written(self):
        self.assertEqual(str(frame()), "f every 10 long 2 release 3 last 50 by a.k.b")
        self.assertEqual(str(frame(ways=(SHORT, LONG))), "f every 10 long 2 release 3 last 50 by a.k.b/a.n.h.o.i.p.b")
        self.assertEqual(str(Frame("f", (MIDDLE,), every=120)),
                         "f every 120 long 1 release 0 last 480 by a.l.g.m.b")

    def test_read(self):
        self.assertEqual(read_frame("f every 10 long 2 release 3 last 50 by a.k.b"), frame())
        self.assertEqual(read_frame("f every 10 long 2 release 3 last 50 by a.k.b/a.l.g.m.b"),
                         frame(ways=(SHORT, MIDDLE)))

    def test_what_is_written_is_read_to_an_equal_frame(self):
        for ways, every, long, last in itertools.product(GOOD_WAYS, ROUNDS, (1, 10, 30), (1, 480)):
            for release in (0, every - 1):
                told = frame("abcdefgh", ways, every, long, release, last)
                again = read_frame(str(told))
                self.assertEqual(again, told)
                self.assertEqual(fields(again), fields(told))
                self.assertEqual(str(again), str(told))

    def bad_line(self, text):
        with self.subTest(text=text):
            self.refused(BadLine, lambda: read_frame(text))

    def test_other_words(self):
        good = "f every 10 long 2 release 3 last 50 by a.k.b"
        words = good.split(" ")
        for at in range(len(words)):
            self.bad_line(" ".join(words[:at] + words[at + 1:]))
            self.bad_line(" ".join(words[:at] + [words[at], words[at]] + words[at + 1:]))
        for at in range(1, len(words), 2):
            for word in ("", "Every", words[at] + "s", words[at].upper(), words[at - 2]):
                self.bad_line(" ".join(words[:at] + [word] + words[at + 1:]))
        self.bad_line("f long 2 every 10 release 3 last 50 by a.k.b")
        self.bad_line("f every 10 long 2 release 3 last 50")
        self.bad_line(good + " more")
        self.bad_line("frame " + good)
        self.bad_line("f")
        self.bad_line("")

    def test_other_blanks(self):
        good = "f every 10 long 2 release 3 last 50 by a.k.b"
        for at, sign in enumerate(good):
            if sign == " ":
                self.bad_line(good[:at] + good[at + 1:])
                self.bad_line(good[:at] + "  " + good[at + 1:])
                self.bad_line(good[:at] + "_" + good[at + 1:])
        self.bad_line(" " + good)
        self.bad_line(good + " ")
        self.bad_line("f every 10 long 2 release 3 last 50 by a.k .b")
        self.bad_line("f every 10 long 2 release 3 last 50 by a.k.b /a.l.b")

    def test_no_name(self):
        self.bad_line(" every 10 long 2 release 3 last 50 by a.k.b")
        self.bad_line("every 10 long 2 release 3 last 50 by a.k.b")

    def test_ways_of_no_sign_or_a_third_one(self):
        for ways in ("", "/", "a.k.b/", "/a.k.b", "a.k.b/a.l.b/a.m.b", "a.k.b//a.l.b", "//", "a.k.b/a.l.b/"):
            self.bad_line("f every 10 long 2 release 3 last 50 by " + ways)

    def test_numbers_that_are_not_of_the_form(self):
        for at in (2, 4, 6, 8):
            for number in ("", "+4", "-4", "-0", "04", "00", "004", "000004", "1000000", "0000000", "4.0", "4e0", "four",
                           "0x4", "1_0", "4,", "true", "True", "9" * 5000):
                words = "f every 10 long 2 release 3 last 50 by a.k.b".split(" ")
                words[at] = number
                self.bad_line(" ".join(words))

    def test_the_form_is_looked_at_first(self):
        self.bad_line("F every 10 long 2 release 3 last 050 by a.k.b")
        self.bad_line("F every 7 long 2 release 3 last 50 by a..b/")
        self.bad_line("f every 7 long 0 release 99 last 0 by a/b/c")

    def test_texts_of_the_form_that_tell_no_frame(self):
        def text(name="f", every="10", long="2", release="3", last="50", ways="a.k.b"):
            return f"{name} every {every} long {long} release {release} last {last} by {ways}"

        for name in ("F", "f1", "abcdefghi", ".", "/", "a/b", "every.", "~"):
            self.refused(BadName, lambda: read_frame(text(name=name)))
            self.refused(BadName, lambda: read_frame(text(name=name, ways=".", every="7")))
        for ways in ("a", ".", "..", "a..b", ".k.b", "a.k.", "a.k.b.c", "a.K.b", "a.k.a", "a.k.b/a.k.b", "a.k.b/b.l.a",
                     "a.k.b/.", "./a.k.b", "a,k,b", "a.k.b/x", "~"):
            self.refused(BadWay, lambda: read_frame(text(ways=ways)))
            self.refused(BadWay, lambda: read_frame(text(ways=ways, long="0")))
        for number in ("999999", "100000", "481", "0"):
            self.refused(BadNumber, lambda: read_frame(text(every=number)))
            self.refused(BadNumber, lambda: read_frame(text(long=number)))
            self.refused(BadNumber, lambda: read_frame(text(last=number)))
        self.refused(BadNumber, lambda: read_frame(text(release="10")))
        self.refused(BadNumber, lambda: read_frame(text(release="999999")))

    def test_words_of_the_form_may_be_names(self):
        self.assertEqual(read_frame("every every 10 long 2 release 3 last 50 by by.long.last"),
                         frame(name="every", ways=(("by", "long", "last"),)))


class Lies(unittest.TestCase):
    def setUp(self):
        """Houses a, b, c; gates g, h; lines k to o: a to b, a to g, g to b, g to h, h to b."""
        self.net = Net()
        for name in ("a", "b", "c"):
            self.net.house(name)
        for name in ("g", "h"):
            self.net.gate(name)
        for name, senders, ears in (("k", "a", "b"), ("l", "ac", "g"), ("m", "g", "b"), ("n", "g", "h"), ("o", "h", "bc")):
            self.net.line(name, tuple(senders), tuple(ears))
        self.ways = (("a", "k", "b"), ("a", "l", "g", "m", "b"), ("a", "l", "g", "n", "h", "o", "b"))

    def test_ways_that_lie_in_the_net(self):
        for way in self.ways:
            self.assertIs(lies(self.net, way), True)
        self.assertIs(lies(self.net, ("c", "l", "g", "n", "h", "o", "b")), True)

    def test_ways_turned_about(self):
        for way in self.ways:
            self.assertIs(lies(self.net, way[::-1]), False)

    def test_each_place_exchanged(self):
        others = {"house": "c", "gate": "h", "line": "n"}
        for way in self.ways:
            for at, name in enumerate(way):
                for other in list(others.values()) + ["x", "", "A"]:
                    changed = way[:at] + (other,) + way[at + 1:]
                    # Only a sender or ear of the same line, of the same kind, may stand there instead.
                    wanted = changed == way or changed in (
                        ("c", "l", "g", "m", "b"), ("c", "l", "g", "n", "h", "o", "b"), ("a", "l", "g", "n", "h", "o", "c"))
                    with self.subTest(changed=changed):
                        self.assertIs(lies(self.net, changed), wanted)

    def test_kinds_are_asked_even_where_the_lines_would_join(self):
        net = Net()
        for name in ("a", "b", "c"):
            net.house(name)
        for name in ("g", "h"):
            net.gate(name)
        nodes = ("a", "b", "c", "g", "h")
        for name in ("k", "l"):
            net.line(name, nodes, nodes)
        for first, middle, last in itertools.permutations(nodes, 3):
            wanted = first in "abc" and middle in "gh" and last in "abc"
            self.assertEqual(lies(net, (first, "k", middle, "l", last)), wanted)
        for first, last in itertools.permutations(nodes, 2):
            self.assertEqual(lies(net, (first, "k", last)), first in "abc" and last in "abc")

    def test_a_line_must_have_the_one_ahead_as_sender_and_the_one_behind_as_ear(self):
        net = Net()
        for name in ("a", "b"):
            net.house(name)
        net.line("k", ("a",), ("a",))
        net.line("l", ("b",), ("b",))
        net.line("m", ("a", "b"), ("b",))
        self.assertFalse(lies(net, ("a", "k", "b")))
        self.assertFalse(lies(net, ("a", "l", "b")))
        self.assertFalse(lies(net, ("b", "m", "a")))
        self.assertTrue(lies(net, ("a", "m", "b")))

    def test_an_empty_net(self):
        for way in self.ways:
            self.assertIs(lies(Net(), way), False)

    def test_the_net_is_not_changed(self):
        ahead = self.net.twin()
        for way in self.ways + (("a", "x", "b"),):
            lies(self.net, way)
        self.assertEqual(self.net, ahead)

    def test_a_changed_net_is_asked_anew(self):
        way = self.ways[0]
        self.assertTrue(lies(self.net, way))
        self.net.drop("k")
        self.assertFalse(lies(self.net, way))


if __name__ == "__main__":
    unittest.main()
