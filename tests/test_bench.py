"""Points 18 and 19, points 1 and 2 where they speak of benches, and the interface of slotwright/bench.py."""

import random
import unittest

from samples import LONG, LOWER, OTHER, SHORT, UPPER, parameters, refused, sample_lot, sample_net, short
from slotwright.bench import Bench
from slotwright.errors import BadNumber, Heavy, Late, NoName, NoStep, Tight
from slotwright.frames import Frame
from slotwright.lots import plan
from slotwright.net import Net
from slotwright.tables import Table, worst

ROWS = (("x", 0, (13, 19)), ("x", 1, (4, 8)), ("y", 0, (0, 5)))
LINES = ("k", "m", "n", "o", "p", "q")
NODES = ("a", "b", "c", "g", "h")


class PlainBench:
    """The same run, reckoned anew from its deeds at each asking, moment by moment."""

    def __init__(self, net, frames, table, earls=None):
        self.net, self.frames, self.table, self.earls = net, frames, table, earls or {}
        self.deeds, self.moment = [], -30

    def reckon(self):
        """All sendings that went out ahead of now, and all that was given, in order."""
        cut, hushed, sendings, given = set(), set(), [], []
        for moment in range(-30, self.moment + 1):
            for when, (change, name) in self.deeds:
                if when == moment:
                    {"cut": cut.add, "mend": cut.discard, "hush": hushed.add, "wake": hushed.discard}[change](name)
            if moment < self.moment:
                given += self.land(moment, sendings, given)
                self.send(moment, sendings, hushed)
            for row in sendings:
                if row["out"] <= moment < row["end"]:
                    row["lost"] = row["lost"] or row["line"] in cut
                    row["spoilt"] = row["spoilt"] or any(
                        other is not row and other["line"] == row["line"] and other["out"] <= moment < other["end"]
                        for other in sendings)
        return sendings, given

    def land(self, moment, sendings, given):
        """What is given at the moment: each going once, by the first way where both are alike."""
        known, found = {(row[1], row[2]) for row in given}, []
        landed = [row["place"] for row in sendings if row["end"] + row["wire"] == moment and row["last"] and whole(row)]
        for name, at, h, j in sorted(landed, key=lambda place: (place[0], place[3], place[1])):
            if (name, j) not in known:
                known.add((name, j))
                found.append((moment, name, j, at))
        return found

    def send(self, moment, sendings, hushed):
        """Whatever goes out at the moment."""
        fresh = []
        for frame in self.frames:
            for at, way in enumerate(frame.ways):
                for h, start in enumerate(self.table.of(frame.name, at)):
                    node, line, early = way[2 * h], way[2 * h + 1], self.earls.get(way[2 * h], (0,))
                    # No round is below 10 here, and no moment above 100.
                    for j in range(14):
                        if start + j * frame.every - early[j % len(early)] != moment or node in hushed:
                            continue
                        come = [row for row in sendings if row["place"] == (frame.name, at, h - 1, j)
                                and row["end"] + row["wire"] <= moment and whole(row)]
                        if h == 0 or come:
                            fresh.append({"place": (frame.name, at, h, j), "out": moment, "end": moment + frame.long,
                                          "line": line, "wire": self.net.ends(line)[2], "last": 2 * h + 3 == len(way),
                                          "lost": False, "spoilt": False})
        sendings += fresh

    def sent(self):
        rows = []
        for row in self.reckon()[0]:
            fate = "spoilt" if row["spoilt"] else "lost" if row["lost"] else "whole"
            rows.append((row["out"], row["line"]) + row["place"] + (fate,))
        return sorted(rows)

    def go(self, until):
        since, self.moment = self.moment, until
        return [row for row in self.reckon()[1] if row[0] >= since]


def whole(row):
    """Whether a sending is neither spoilt nor lost so far."""
    return not row["spoilt"] and not row["lost"]


def started(earls=None):
    return Bench(sample_net(), sample_lot(), Table(ROWS), earls=earls)


def lone(start=0, every=20, long=3, earls=None):
    """A bench with one frame z on the line q."""
    return Bench(sample_net(), [short("z", every, long)], Table([("z", 0, (start,))]), earls=earls)


def fates(bench):
    """What became of what, by (name, way, h, j)."""
    return {row[2:6]: row[6] for row in bench.sent()}


class Interface(unittest.TestCase):
    def test_arguments_and_defaults(self):
        self.assertEqual(parameters(Bench), "(net, frames, table, *, earls=None)")
        self.assertEqual(parameters(Bench.go), "(until)")
        for deed in (Bench.cut, Bench.mend):
            self.assertEqual(parameters(deed), "(line)")
        for deed in (Bench.hush, Bench.wake):
            self.assertEqual(parameters(deed), "(node)")
        for deed in (Bench.now, Bench.sent, Bench.twin):
            self.assertEqual(parameters(deed), "()")

    def test_by_names(self):
        bench = Bench(earls=None, table=Table(ROWS), frames=sample_lot(), net=sample_net())
        bench.cut(line="q")
        bench.mend(line="q")
        bench.hush(node="a")
        bench.wake(node="a")
        self.assertEqual(bench.go(until=11), [(10, "y", 0, 0)])

    def test_no_frames(self):
        bench = Bench(Net(), [], Table())
        self.assertEqual((bench.now(), bench.go(1200), bench.sent(), bench.now()), (-30, [], [], 1200))

    def test_rows_beside_the_lot_are_not_run(self):
        bench = Bench(sample_net(), [short("z", 20)], Table(ROWS + (("z", 0, (0,)), ("z", 1, (5,)))))
        bench.go(40)
        self.assertEqual([row[:3] for row in bench.sent()], [(0, "q", "z"), (20, "q", "z")])


class Earlinesses(unittest.TestCase):
    def test_bounds(self):
        for earls in ({"a": ()}, {"a": (-1,)}, {"a": (31,)}, {"a": (True,)}, {"b": (0, False)}, {"a": (0, 30, 31)},
                      {"a": (0,), "c": ()}, {"a": (10 ** 30,)}):
            refused(self, BadNumber, lambda: started(earls))
        for earls in (None, {}, {"a": (0,)}, {"a": (30,)}, {"b": (0, 30, 15)}):
            self.assertEqual(started(earls).now(), -30)

    def test_they_come_round(self):
        bench = lone(40, 20, 3, {"c": (0, 5, 2)})
        given = bench.go(200)
        self.assertEqual([row[0] for row in bench.sent()], [40, 55, 78, 100, 115, 138, 160, 175, 198])
        # What went out at 198 comes at 201.
        self.assertEqual(given, [(43, "z", 0, 0), (58, "z", 1, 0), (81, "z", 2, 0), (103, "z", 3, 0), (118, "z", 4, 0),
                                 (141, "z", 5, 0), (163, "z", 6, 0), (178, "z", 7, 0)])

    def test_from_the_moment_minus_thirty_on(self):
        bench = lone(0, 60, 3, {"c": (30,)})
        self.assertEqual(bench.now(), -30)
        self.assertEqual(bench.go(-29), [])
        self.assertEqual(bench.sent(), [(-30, "q", "z", 0, 0, 0, "whole")])
        self.assertEqual(bench.go(-26), [(-27, "z", 0, 0)])
        self.assertEqual(lone(0, 60, 3, {"c": (30,)}).go(-27), [])
        self.assertEqual(lone(0, 60, 3).go(3), [])
        self.assertEqual(lone(0, 60, 3).go(4), [(3, "z", 0, 0)])

    def test_of_each_sender_its_own(self):
        # y goes from c over the gate g: c and g are early by themselves.
        bench = started({"c": (2,), "g": (1, 0), "b": (30,)})
        bench.go(60)
        self.assertEqual([row for row in bench.sent() if row[2] == "y"], [
            (-2, "k", "y", 0, 0, 0, "whole"), (4, "m", "y", 0, 1, 0, "whole"),
            (28, "k", "y", 0, 0, 1, "whole"), (35, "m", "y", 0, 1, 1, "whole"), (58, "k", "y", 0, 0, 2, "whole")])

    def test_later_goings_go_out_ahead_of_earlier_ones(self):
        bench = lone(40, 4, 1, {"c": (0, 30)})
        bench.go(60)
        self.assertEqual([(row[0], row[5]) for row in bench.sent()],
                         [(14, 1), (22, 3), (30, 5), (38, 7), (40, 0), (46, 9), (48, 2), (54, 11), (56, 4)])


class Gates(unittest.TestCase):
    def test_what_has_not_come_does_not_go_on(self):
        # y is 2 long on k with a wire of 2: it comes to the gate 4 behind its going out.
        for earls, goes in (({}, True), ({"g": (1,)}, True), ({"g": (2,)}, False), ({"g": (3,), "c": (2,)}, True),
                            ({"g": (4,), "c": (2,)}, False), ({"g": (1, 2)}, None)):
            bench = Bench(sample_net(), sample_lot()[:1], Table(ROWS[2:]), earls=earls)
            given = bench.go(110)
            many = [row[5] for row in bench.sent() if row[1] == "m"]
            self.assertEqual(many, [0, 2] if goes is None else [0, 1, 2, 3][:4 if goes else 0])
            self.assertEqual([row[2] for row in given], many)

    def test_three_lines(self):
        frame = Frame("w", (LONG,), every=30, long=2, last=40)
        # 2 + 2 to g, 2 + 1 to h, 2 + 1 to b.
        bench = Bench(sample_net(), [frame], Table([("w", 0, (0, 4, 7))]))
        self.assertEqual(bench.go(40), [(10, "w", 0, 0)])
        self.assertEqual([row[:2] for row in bench.sent()], [(0, "k"), (4, "p"), (7, "o"), (30, "k"), (34, "p"), (37, "o")])
        bench = Bench(sample_net(), [frame], Table([("w", 0, (0, 4, 6))]))
        self.assertEqual(bench.go(40), [])
        self.assertEqual([row[:2] for row in bench.sent()], [(0, "k"), (4, "p"), (30, "k"), (34, "p")])

    def test_what_came_spoilt_or_lost_does_not_go_on(self):
        lot = [Frame("v", (UPPER,), every=60, long=2), Frame("w", (OTHER,), every=60, long=2)]
        bench = Bench(sample_net(), lot, Table([("v", 0, (10, 30)), ("w", 0, (11, 40))]))
        self.assertEqual(bench.go(60), [])
        self.assertEqual(bench.sent(), [(10, "k", "v", 0, 0, 0, "spoilt"), (11, "k", "w", 0, 0, 0, "spoilt")])
        bench = Bench(sample_net(), lot, Table([("v", 0, (10, 30)), ("w", 0, (12, 40))]))
        self.assertEqual(bench.go(60), [(35, "v", 0, 0), (45, "w", 0, 0)])
        bench = Bench(sample_net(), lot[:1], Table([("v", 0, (10, 30))]))
        bench.cut("k")
        self.assertEqual(bench.go(60), [])
        self.assertEqual(bench.sent(), [(10, "k", "v", 0, 0, 0, "lost")])


class Spoiling(unittest.TestCase):
    def two(self, one, two, long=3, other_long=2, earls=None):
        bench = Bench(sample_net(), [short("r", 60, long), short("s", 60, other_long)],
                      Table([("r", 0, (one,)), ("s", 0, (two,))]), earls=earls)
        bench.go(40)
        return [row[6] for row in bench.sent()]

    def test_on_one_line_at_once(self):
        for two, fate in ((17, "whole"), (18, "whole"), (19, "spoilt"), (20, "spoilt"), (21, "spoilt"), (22, "spoilt"),
                          (23, "whole")):
            self.assertEqual(self.two(20, two), [fate] * 2)

    def test_three_at_once_and_in_a_row(self):
        lot = [short(name, 60, 3) for name in "rst"]
        bench = Bench(sample_net(), lot, Table([("r", 0, (20,)), ("s", 0, (22,)), ("t", 0, (24,))]))
        bench.go(40)
        self.assertEqual(fates(bench), {("r", 0, 0, 0): "spoilt", ("s", 0, 0, 0): "spoilt", ("t", 0, 0, 0): "spoilt"})
        bench = Bench(sample_net(), lot, Table([("r", 0, (20,)), ("s", 0, (22,)), ("t", 0, (25,))]))
        bench.go(40)
        self.assertEqual(fates(bench), {("r", 0, 0, 0): "spoilt", ("s", 0, 0, 0): "spoilt", ("t", 0, 0, 0): "whole"})

    def test_a_long_one_under_short_ones(self):
        lot = [short("r", 120, 30), short("s", 120, 1), short("t", 120, 1)]
        bench = Bench(sample_net(), lot, Table([("r", 0, (20,)), ("s", 0, (21,)), ("t", 0, (49,))]))
        bench.go(60)
        self.assertEqual(set(fates(bench).values()), {"spoilt"})

    def test_goings_of_one_frame(self):
        bench = lone(40, 4, 3, {"c": (0, 2)})
        bench.go(60)
        # 40, 42, 48, 50, 56, 58: each two lie there at once.
        self.assertEqual([(row[0], row[6]) for row in bench.sent()],
                         [(moment, "spoilt") for moment in (40, 42, 48, 50, 56, 58)])

    def test_it_is_spoilt_from_the_meeting_on(self):
        bench = Bench(sample_net(), [short("r", 60, 5), short("s", 60, 2)], Table([("r", 0, (20,)), ("s", 0, (22,))]))
        bench.go(22)
        self.assertEqual(bench.sent(), [(20, "q", "r", 0, 0, 0, "whole")])
        self.assertEqual(bench.go(23), [])
        self.assertEqual(bench.sent(), [(20, "q", "r", 0, 0, 0, "spoilt"), (22, "q", "s", 0, 0, 0, "spoilt")])

    def test_spoilt_goes_ahead_of_lost_and_what_is_lost_spoils(self):
        bench = Bench(sample_net(), [short("r", 60, 5), short("s", 60, 2)], Table([("r", 0, (20,)), ("s", 0, (24,))]))
        bench.go(20)
        bench.cut("q")
        bench.go(22)
        bench.mend("q")
        self.assertEqual(bench.sent(), [(20, "q", "r", 0, 0, 0, "lost")])
        bench.go(30)
        self.assertEqual(bench.sent(), [(20, "q", "r", 0, 0, 0, "spoilt"), (24, "q", "s", 0, 0, 0, "spoilt")])


class Cuts(unittest.TestCase):
    def fate(self, cut, mend):
        """What becomes of z, which lies on q from 20 up to 25, and when it is given."""
        bench = lone(20, 60, 5)
        given = bench.go(cut)
        bench.cut("q")
        given += bench.go(mend)
        bench.mend("q")
        given += bench.go(60)
        self.assertEqual(given, [(25, "z", 0, 0)] if bench.sent()[0][6] == "whole" else [])
        return bench.sent()[0][6]

    def test_the_first_moment_and_the_last(self):
        for cut, mend, wanted in ((10, 20, "whole"), (10, 21, "lost"), (20, 21, "lost"), (24, 25, "lost"),
                                  (24, 30, "lost"), (25, 30, "whole"), (22, 23, "lost"), (0, 50, "lost"),
                                  (19, 20, "whole")):
            self.assertEqual(self.fate(cut, mend), wanted, (cut, mend))

    def test_cut_and_mended_at_one_moment(self):
        for moment in (-30, 0, 19, 20, 21, 22, 24, 25, 40):
            self.assertEqual(self.fate(moment, moment), "whole")

    def test_cut_and_mended_many_times(self):
        bench = lone(20, 60, 5)
        bench.go(22)
        for turn in range(3):
            bench.cut("q")
            self.assertEqual(fates(bench), {("z", 0, 0, 0): "lost"})
            bench.mend("q")
            self.assertEqual(fates(bench), {("z", 0, 0, 0): "whole"})
        bench.cut("q")
        bench.go(23)
        bench.mend("q")
        bench.cut("q")
        bench.mend("q")
        self.assertEqual(fates(bench), {("z", 0, 0, 0): "lost"})
        self.assertEqual(bench.go(60), [])

    def test_a_wire_is_not_cut(self):
        # x comes 3 behind its end on m: that it is cut then is nothing to it.
        bench = Bench(sample_net(), sample_lot()[:1], Table(ROWS[2:]))
        bench.go(7)
        bench.cut("m")
        self.assertEqual(bench.go(20), [(10, "y", 0, 0)])

    def test_a_line_that_stays_cut(self):
        bench = started()
        bench.cut("m")
        self.assertEqual({row[1] for row in bench.go(200)}, {"x"})
        self.assertEqual({row[3] for row in bench.go(400)}, {1})
        self.assertEqual({row[6] for row in bench.sent() if row[1] == "m"}, {"lost"})
        self.assertEqual({row[6] for row in bench.sent() if row[1] != "m"}, {"whole"})

    def test_other_lines_are_not_cut(self):
        bench = lone(20, 60, 5)
        bench.cut("k")
        self.assertEqual(bench.go(60), [(25, "z", 0, 0)])


class Hushes(unittest.TestCase):
    def test_a_hushed_node_sends_nothing(self):
        bench = started()
        bench.hush("a")
        self.assertEqual({row[1] for row in bench.go(200)}, {"y"})
        self.assertEqual({row[2] for row in bench.sent()}, {"y"})
        bench.wake("a")
        self.assertEqual({row[1] for row in bench.go(400)}, {"x", "y"})

    def test_a_hushed_gate(self):
        bench = started()
        bench.hush("g")
        given = bench.go(200)
        self.assertEqual({row[1] for row in given}, {"x"})
        self.assertEqual({row[3] for row in given}, {1})
        self.assertEqual({row[1] for row in bench.sent()}, {"k", "n", "o"})

    def test_a_hushed_goal(self):
        bench, other = started(), started()
        bench.hush("b")
        self.assertEqual(bench.go(300), other.go(300))

    def test_from_the_moment_on(self):
        for hush, wake, many in ((20, 21, 0), (21, 30, 1), (10, 20, 1), (20, 20, 1), (0, 40, 0)):
            bench = lone(20, 60, 5)
            bench.go(hush)
            bench.hush("c")
            bench.go(wake)
            bench.wake("c")
            bench.go(60)
            self.assertEqual(len(bench.sent()), many)

    def test_what_is_on_its_way_comes(self):
        bench = lone(20, 60, 5)
        bench.go(21)
        bench.hush("c")
        self.assertEqual(bench.go(60), [(25, "z", 0, 0)])

    def test_a_going_that_was_held_back_is_not_sent_later(self):
        bench = started()
        bench.go(5)
        bench.hush("g")
        bench.go(7)
        bench.wake("g")
        self.assertEqual([row[:3] for row in bench.go(45) if row[1] == "y"], [(40, "y", 1)])


class BothWays(unittest.TestCase):
    def bench(self, one, two):
        frame = Frame("x", (UPPER, LOWER), every=120, long=1, last=100)
        # 1 + 2 and 1 + 3 by the first way, 1 + 0 and 1 + 1 by the second.
        return Bench(sample_net(), [frame], Table([("x", 0, (0, one)), ("x", 1, (0, two))]))

    def test_the_sooner_coming(self):
        self.assertEqual(self.bench(10, 20).go(60), [(14, "x", 0, 0)])
        self.assertEqual(self.bench(20, 10).go(60), [(12, "x", 0, 1)])

    def test_both_alike(self):
        self.assertEqual(self.bench(10, 12).go(60), [(14, "x", 0, 0)])
        self.assertEqual(self.bench(10, 11).go(60), [(13, "x", 0, 1)])
        self.assertEqual(self.bench(10, 13).go(60), [(14, "x", 0, 0)])

    def test_it_is_given_once_over_several_runs(self):
        for one, two, way in ((10, 20, 0), (20, 10, 1), (10, 12, 0)):
            bench = self.bench(one, two)
            given = []
            for moment in range(-30, 61):
                given += bench.go(moment)
            self.assertEqual([row[1:] for row in given], [("x", 0, way)])

    def test_the_other_way_where_one_is_cut(self):
        for line, wanted in (("k", (12, "x", 0, 1)), ("m", (12, "x", 0, 1)), ("n", (24, "x", 0, 0)),
                             ("o", (24, "x", 0, 0)), ("q", (12, "x", 0, 1))):
            bench = self.bench(20, 10)
            bench.cut(line)
            self.assertEqual(bench.go(60), [wanted])


class Running(unittest.TestCase):
    def test_worked_out_by_hand(self):
        bench = started()
        # y comes at 5 + 2 + 3, x by its second way at 8 + 3 + 1.
        self.assertEqual(bench.go(60), [(10, "y", 0, 0), (12, "x", 0, 1), (32, "x", 1, 1), (40, "y", 1, 0),
                                        (52, "x", 2, 1)])
        self.assertEqual(bench.now(), 60)
        self.assertEqual(bench.sent()[:8], [
            (0, "k", "y", 0, 0, 0, "whole"), (4, "n", "x", 1, 0, 0, "whole"), (5, "m", "y", 0, 1, 0, "whole"),
            (8, "o", "x", 1, 1, 0, "whole"), (13, "k", "x", 0, 0, 0, "whole"), (19, "m", "x", 0, 1, 0, "whole"),
            (24, "n", "x", 1, 0, 1, "whole"), (28, "o", "x", 1, 1, 1, "whole")])

    def test_moments_that_are_refused(self):
        bench = started()
        bench.go(50)
        sent = bench.sent()
        for until in (49, -31, -30, 1201, True, False, 10 ** 30, -10 ** 30):
            refused(self, BadNumber, lambda: bench.go(until))
            self.assertEqual((bench.now(), bench.sent()), (50, sent))
        self.assertEqual(bench.go(50), [])
        self.assertEqual(bench.go(60), [(52, "x", 2, 1)])
        refused(self, BadNumber, lambda: started().go(-31))
        self.assertEqual(started().go(-30), [])

    def test_up_to_the_last_moment(self):
        bench = lone(0, 4, 1)
        given = bench.go(1200)
        self.assertEqual((len(given), given[-1]), (300, (1197, "z", 299, 0)))
        self.assertEqual(bench.sent()[-1], (1196, "q", "z", 0, 0, 299, "whole"))
        self.assertEqual(bench.go(1200), [])
        refused(self, BadNumber, lambda: bench.go(1199))
        bench.cut("q")
        bench.hush("c")
        self.assertEqual(bench.now(), 1200)

    def test_the_moment_of_until_is_left_out(self):
        bench = started()
        self.assertEqual(bench.go(10), [])
        self.assertEqual([row for row in bench.sent() if row[0] >= 10], [])
        self.assertEqual(bench.go(11), [(10, "y", 0, 0)])

    def test_in_pieces_as_in_a_whole(self):
        chance = random.Random(1)
        for earls in (None, {"a": (0, 1), "g": (1, 0, 0)}, {"a": (30, 7), "c": (4, 0, 9), "g": (3,), "h": (0, 20)}):
            bench, other = started(earls), started(earls)
            given, moment = [], -30
            while moment < 400:
                moment = min(400, moment + chance.randint(0, 25))
                given += other.go(moment)
            self.assertEqual(bench.go(400), given)
            self.assertEqual(bench.sent(), other.sent())

    def test_given_of_one_moment_go_by_name(self):
        lot = [short("s", 60, 2), Frame("r", (UPPER, LOWER), every=60, long=1)]
        # r comes at 10 + 1 + 3 and at 12 + 1 + 1.
        table = Table([("s", 0, (12,)), ("r", 0, (0, 10)), ("r", 1, (0, 12))])
        self.assertEqual(Bench(sample_net(), lot, table).go(60), [(14, "r", 0, 0), (14, "s", 0, 0)])

    def test_what_is_handed_in_may_be_changed(self):
        net, lot, table, earls = sample_net(), sample_lot(), Table(ROWS), {"a": (1,), "g": (0, 1)}
        bench, other = Bench(net, lot, table, earls=earls), started({"a": (1,), "g": (0, 1)})
        self.assertEqual((net, lot, table, earls),
                         (sample_net(), sample_lot(), Table(ROWS), {"a": (1,), "g": (0, 1)}))
        lot.clear()
        earls["c"] = (9,)
        earls["a"] = (9,)
        for line in LINES:
            net.drop(line)
        net.line("k", ("a", "c"), ("g",), wire=9)
        net.house("z")
        self.assertEqual(bench.go(100), other.go(100))
        self.assertEqual(bench.sent(), other.sent())
        bench.cut("q")
        refused(self, NoName, lambda: bench.hush("z"), name="z")

    def test_what_is_told_may_be_changed(self):
        bench = started()
        bench.go(40).clear()
        bench.sent().clear()
        other = started()
        other.go(40)
        self.assertEqual(bench.sent(), other.sent())
        self.assertEqual(bench.go(60), other.go(60))


class Refusals(unittest.TestCase):
    def test_names_that_are_none(self):
        bench = started()
        bench.go(30)
        for name in NODES + ("z", "x", "", "K"):
            refused(self, NoName, lambda: bench.cut(name), name=name)
            refused(self, NoName, lambda: bench.mend(name), name=name)
        for name in LINES + ("z", "x", "", "A"):
            refused(self, NoName, lambda: bench.hush(name), name=name)
            refused(self, NoName, lambda: bench.wake(name), name=name)
        other = started()
        self.assertEqual(other.go(30) + bench.go(90), started().go(30) + other.go(90))

    def test_what_is_so_already(self):
        bench = started()
        for line in LINES:
            refused(self, NoStep, lambda: bench.mend(line))
            bench.cut(line)
            refused(self, NoStep, lambda: bench.cut(line))
            bench.go(bench.now() + 1)
            refused(self, NoStep, lambda: bench.cut(line))
            bench.mend(line)
            refused(self, NoStep, lambda: bench.mend(line))
        for node in NODES:
            refused(self, NoStep, lambda: bench.wake(node))
            bench.hush(node)
            refused(self, NoStep, lambda: bench.hush(node))
            bench.go(bench.now() + 1)
            bench.wake(node)
            refused(self, NoStep, lambda: bench.wake(node))

    def test_everything_is_as_it_was(self):
        # A cut at 6 that is asked for once more at 8 began at 6 all the same.
        bench = lone(2, 60, 5)
        bench.go(6)
        bench.cut("q")
        bench.go(8)
        refused(self, NoStep, lambda: bench.cut("q"))
        bench.mend("q")
        refused(self, NoStep, lambda: bench.mend("q"))
        self.assertEqual(fates(bench), {("z", 0, 0, 0): "lost"})


class Twins(unittest.TestCase):
    def test_they_stand_alike_and_share_nothing(self):
        bench = started({"a": (1, 0)})
        bench.go(21)
        bench.cut("m")
        bench.hush("h")
        bench.go(26)
        twin = bench.twin()
        self.assertIsInstance(twin, Bench)
        self.assertEqual((twin.now(), twin.sent()), (26, bench.sent()))
        refused(self, NoStep, lambda: twin.cut("m"))
        refused(self, NoStep, lambda: twin.hush("h"))
        third = twin.twin()
        sent = bench.sent()
        twin.mend("m")
        twin.wake("h")
        twin.cut("k")
        twin.hush("c")
        twin.go(90)
        self.assertEqual((bench.now(), bench.sent()), (26, sent))
        refused(self, NoStep, lambda: bench.mend("k"))
        refused(self, NoStep, lambda: bench.wake("c"))
        self.assertEqual(bench.go(200), third.go(200))
        self.assertEqual(bench.sent(), third.sent())

    def test_cuts_of_the_one_are_none_of_the_other(self):
        for first in (True, False):
            bench = lone(20, 60, 5)
            bench.go(22)
            one, two = (bench, bench.twin()) if first else (bench.twin(), bench)
            one.cut("q")
            one.go(23)
            one.mend("q")
            self.assertEqual((one.go(60), two.go(60)), ([], [(25, "z", 0, 0)]))
            self.assertEqual((fates(one), fates(two)), ({("z", 0, 0, 0): "lost"}, {("z", 0, 0, 0): "whole"}))

    def test_what_was_given_is_known_to_the_twin(self):
        frame = Frame("x", (UPPER, LOWER), every=120, long=1, last=100)
        bench = Bench(sample_net(), [frame], Table([("x", 0, (0, 10)), ("x", 1, (0, 20))]))
        self.assertEqual(bench.go(15), [(14, "x", 0, 0)])
        twin = bench.twin()
        self.assertEqual((bench.go(60), twin.go(60)), ([], []))

    def test_what_lies_on_a_line_lies_there_in_the_twin(self):
        bench = Bench(sample_net(), [short("r", 60, 5), short("s", 60, 2)], Table([("r", 0, (20,)), ("s", 0, (22,))]))
        bench.go(21)
        twin = bench.twin()
        twin.hush("c")
        self.assertEqual((bench.go(40), twin.go(40)), ([], [(25, "r", 0, 0)]))
        self.assertEqual(fates(bench), {("r", 0, 0, 0): "spoilt", ("s", 0, 0, 0): "spoilt"})
        self.assertEqual(fates(twin), {("r", 0, 0, 0): "whole"})


class PlainReckoning(unittest.TestCase):
    def random_start(self, chance):
        """A lot and a table, mostly not right, and earlinesses."""
        lot, rows = [], []
        for name in chance.sample(("r", "s", "t", "u", "ra"), chance.randint(1, 4)):
            ways = chance.choice(((UPPER,), (OTHER,), (LONG,), (SHORT,), (UPPER, LOWER), (LOWER, UPPER), (SHORT, LONG)))
            lot.append(Frame(name, ways, every=chance.choice((10, 12, 15, 20, 30)), long=chance.randint(1, 6)))
            for at, way in enumerate(ways):
                starts = [chance.randint(0, 12)]
                while len(starts) < len(way) // 2:
                    starts.append(max(0, starts[-1] + chance.randint(-1, 14)))
                rows.append((name, at, tuple(starts)))
        earls = {node: tuple(chance.randint(0, chance.choice((3, 30))) for row in range(chance.randint(1, 3)))
                 for node in chance.sample(NODES, chance.randint(0, 5))}
        return lot, Table(rows), earls

    def deed(self, chance, benches, plain):
        """A random deed on all benches and on the plain one, where it is no refusal."""
        change = chance.choice(("cut", "mend", "hush", "wake"))
        name = chance.choice(LINES if change in ("cut", "mend") else NODES)
        try:
            for bench in benches:
                getattr(bench, change)(name)
            plain.deeds.append((plain.moment, (change, name)))
        except NoStep:
            pass

    def test_moment_by_moment(self):
        chance, seen = random.Random(7), set()
        for run in range(60):
            lot, table, earls = self.random_start(chance)
            bench, plain = Bench(sample_net(), lot, table, earls=earls), PlainBench(sample_net(), lot, table, earls)
            while plain.moment < 70:
                for turn in range(chance.choice((0, 0, 1, 2, 5))):
                    self.deed(chance, (bench,), plain)
                    self.assertEqual(bench.sent(), plain.sent())
                until = plain.moment + chance.choice((0, 1, 2, 7, 20))
                self.assertEqual(bench.go(until), plain.go(until))
                self.assertEqual(bench.now(), plain.moment)
                self.assertEqual(bench.sent(), plain.sent())
                bench = bench.twin()
            seen |= {row[6] for row in bench.sent()}
        self.assertEqual(seen, {"spoilt", "lost", "whole"})

    def test_two_runs_in_pieces_as_one(self):
        chance = random.Random(17)
        for run in range(100):
            lot, table, earls = self.random_start(chance)
            one, two = Bench(sample_net(), lot, table, earls=earls), Bench(sample_net(), lot[::-1], table, earls=earls)
            plain = PlainBench(sample_net(), lot, table, earls)
            for turn in range(6):
                self.deed(chance, (one, two), plain)
                until = one.now() + chance.randint(0, 60)
                given = one.go(until)
                pieces = []
                while two.now() < until:
                    pieces += two.go(min(until, two.now() + chance.randint(1, 9)))
                self.assertEqual(given, pieces)
                self.assertEqual(one.sent(), two.sent())


class RightTimetables(unittest.TestCase):
    def test_every_going_in_time_and_nothing_spoilt(self):
        chance, found = random.Random(21), 0
        for run in range(150):
            lot = []
            for name in chance.sample("rstuv", chance.randint(1, 4)):
                ways = chance.choice(((UPPER,), (OTHER,), (LONG,), (SHORT,), (UPPER, LOWER), (SHORT, LONG)))
                lot.append(Frame(name, ways, every=chance.choice((20, 24, 30, 40)), long=chance.randint(1, 4),
                                 release=chance.randint(0, 9), last=chance.randint(16, 30)))
            slack = chance.randint(0, 3)
            try:
                table = plan(sample_net(), lot, slack=slack)
            except (Heavy, Late, Tight):
                continue
            if table is None:
                continue
            found += 1
            earls = {node: tuple(chance.randint(0, slack) for row in range(3)) for node in chance.sample(NODES, 4)}
            bench = Bench(sample_net(), lot, table, earls=earls)
            given = bench.go(400)
            self.assertEqual({row[6] for row in bench.sent()}, {"whole"})
            known = {(name, j): moment for moment, name, j, way in given}
            for frame in lot:
                most = worst(sample_net(), frame, table, slack=slack)[0]
                self.assertLessEqual(most, frame.last)
                for j in range((400 - frame.last - frame.release) // frame.every):
                    # At its goal within its last time, however early the release was.
                    self.assertLessEqual(known[(frame.name, j)] - (frame.release + j * frame.every), most - slack)
        self.assertGreater(found, 40)


if __name__ == "__main__":
    unittest.main()
