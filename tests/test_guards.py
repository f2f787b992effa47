"""Points 20 and 21, points 1 and 2 where they speak of these, and the interface of slotwright/guards.py."""

import random
import unittest

from samples import LONG, LOWER, OTHER, SHORT, UPPER, parameters, refused, sample_lot, sample_net, short
from slotwright.bench import Bench
from slotwright.errors import Heavy, Late, NoName, Tight
from slotwright.frames import Frame
from slotwright.guards import masked_babble, masked_cut, masked_silent, pause
from slotwright.lots import plan
from slotwright.tables import Table, faults

LINES = ("k", "m", "n", "o", "p", "q")
NODES = ("a", "b", "c", "g", "h")
ROWS = (("x", 0, (13, 19)), ("x", 1, (4, 8)), ("y", 0, (0, 5)))


def five():
    """Frames by one way and by two, not in the order of names."""
    return [Frame("w", (LONG, SHORT), every=120), Frame("v", (SHORT,), every=120), Frame("y", (OTHER,), every=120),
            Frame("x", (UPPER, LOWER), every=120), Frame("u", (LONG,), every=120)]


def plain_pause(old, old_table, new, new_table, slack):
    """The least pause by trying one after the other, going by going and earliness by earliness at the worst."""
    tried = 0
    while not is_well(old, old_table, new, new_table, slack, tried):
        tried += 1
    return tried


def is_well(old, old_table, new, new_table, slack, tried):
    """Whether all of the old is off each line ahead of all of the new."""
    ends, begins = [], []
    for frame in old:
        for at, way in enumerate(frame.ways):
            for line, start in zip(way[1::2], old_table.of(frame.name, at)):
                goings = [j for j in range(200) if frame.release + j * frame.every < 120]
                ends += [(line, start + j * frame.every - early + frame.long) for j in goings for early in range(slack + 1)]
    for frame in new:
        for at, way in enumerate(frame.ways):
            for line, start in zip(way[1::2], new_table.of(frame.name, at)):
                begins += [(line, 120 + tried + start + j * frame.every - early)
                           for j in range(3) for early in range(slack + 1)]
    return all(end <= begin for line, end in ends for other, begin in begins if line == other)


class Interface(unittest.TestCase):
    def test_arguments_and_defaults(self):
        self.assertEqual(parameters(masked_cut), "(net, frames, line)")
        self.assertEqual(parameters(masked_silent), "(net, frames, node)")
        self.assertEqual(parameters(masked_babble), "(net, frames, node)")
        self.assertEqual(parameters(pause), "(net, old, old_table, new, new_table, *, slack=0)")

    def test_by_names(self):
        net = sample_net()
        self.assertEqual(masked_cut(line="q", frames=five(), net=net), ["u", "w", "x", "y"])
        self.assertEqual(masked_silent(node="b", frames=five(), net=net), ["u", "v", "w", "x", "y"])
        self.assertEqual(masked_babble(node="b", frames=five(), net=net), ["u", "v", "w", "x", "y"])
        self.assertEqual(pause(slack=0, new_table=Table(), new=[], old_table=Table(), old=[], net=net), 0)


class Masked(unittest.TestCase):
    def test_a_cut_line(self):
        wanted = {"k": ["v", "w", "x"], "m": ["u", "v", "w", "x"], "n": ["u", "v", "w", "x", "y"],
                  "o": ["v", "w", "x", "y"], "p": ["v", "w", "x", "y"], "q": ["u", "w", "x", "y"]}
        for line, names in wanted.items():
            self.assertEqual(masked_cut(sample_net(), five(), line), names)
            self.assertEqual(masked_cut(sample_net(), five()[::-1], line), names)

    def test_a_silent_node(self):
        wanted = {"a": ["u", "v", "w", "y"], "b": ["u", "v", "w", "x", "y"], "c": ["x"],
                  "g": ["v", "w", "x"], "h": ["v", "w", "x", "y"]}
        for node, names in wanted.items():
            self.assertEqual(masked_silent(sample_net(), five(), node), names)
            self.assertEqual(masked_silent(sample_net(), five()[::-1], node), names)

    def test_a_babbling_node(self):
        # a may send on k and n, c on k and q, g on m and p, h on o; b on none.
        wanted = {"a": ["v", "w"], "b": ["u", "v", "w", "x", "y"], "c": ["x"],
                  "g": ["v", "w", "x"], "h": ["v", "w", "x", "y"]}
        for node, names in wanted.items():
            self.assertEqual(masked_babble(sample_net(), five(), node), names)
            self.assertEqual(masked_babble(sample_net(), five()[::-1], node), names)

    def test_a_goal_that_may_send(self):
        net = sample_net()
        net.line("back", ("b",), ("c",))
        net.line("side", ("b", "c"), ("a", "b"))
        lot = [Frame("z", (("b", "back", "c"),), every=120), Frame("y", (SHORT,), every=120),
               Frame("x", (SHORT, ("c", "side", "b")), every=120), Frame("w", (("c", "side", "b"),), every=120)]
        self.assertEqual(masked_silent(net, lot, "b"), ["w", "x", "y"])
        # A babbling one may be the sender of the line itself by which it is the goal.
        self.assertEqual(masked_babble(net, lot, "b"), ["x", "y"])

    def test_no_frames(self):
        for line in LINES:
            self.assertEqual(masked_cut(sample_net(), [], line), [])
        for node in NODES:
            self.assertEqual(masked_silent(sample_net(), [], node), [])
            self.assertEqual(masked_babble(sample_net(), [], node), [])

    def test_names_that_are_none(self):
        for frames in (five(), []):
            for name in NODES + ("z", "x", "", "K"):
                refused(self, NoName, lambda: masked_cut(sample_net(), frames, name), name=name)
            for name in LINES + ("z", "x", "", "A"):
                refused(self, NoName, lambda: masked_silent(sample_net(), frames, name), name=name)
                refused(self, NoName, lambda: masked_babble(sample_net(), frames, name), name=name)

    def test_nothing_is_changed(self):
        net, lot = sample_net(), five()
        for deed, name in ((masked_cut, "k"), (masked_silent, "a"), (masked_babble, "a")):
            deed(net, lot, name).clear()
            self.assertEqual(deed(net, lot, name), deed(sample_net(), five(), name))
        self.assertEqual((net, lot), (sample_net(), five()))


class OnABench(unittest.TestCase):
    def setUp(self):
        self.table = Table([("w", 0, (0, 10, 20)), ("w", 1, (0,)), ("v", 0, (5,)), ("y", 0, (5, 15)),
                            ("x", 0, (10, 20)), ("x", 1, (10, 30)), ("u", 0, (20, 30, 40))])
        self.assertEqual(faults(sample_net(), five(), self.table, slack=2), [])

    def given(self, cut=(), hushed=()):
        """The names of what is given in the first and in the second common round."""
        bench = Bench(sample_net(), five(), self.table, earls={"a": (1, 2), "g": (0, 2), "c": (2,)})
        for line in cut:
            bench.cut(line)
        for node in hushed:
            bench.hush(node)
        first, second = [sorted(row[1] for row in bench.go(until)) for until in (118, 238)]
        self.assertEqual(first, second)
        return first

    def test_all_are_given(self):
        self.assertEqual(self.given(), ["u", "v", "w", "x", "y"])

    def test_a_cut_line(self):
        for line in LINES:
            self.assertEqual(self.given(cut=[line]), masked_cut(sample_net(), five(), line))

    def test_a_silent_node(self):
        for node in NODES:
            self.assertEqual(self.given(hushed=[node]), masked_silent(sample_net(), five(), node))

    def test_a_babbling_node(self):
        # What goes over a line that is busy for ever is spoilt: it comes no more than over a cut one.
        net = sample_net()
        for node in NODES:
            busy = [line for line in LINES if node in net.ends(line)[0]]
            self.assertEqual(self.given(cut=busy), masked_babble(net, five(), node))

    def test_a_babbler_as_a_frame(self):
        # c keeps k and q busy by frames that follow on themselves.
        net = sample_net()
        lot = five() + [Frame("ba", (OTHER,), every=30, long=30), Frame("bb", (SHORT,), every=30, long=30)]
        bench = Bench(net, lot, Table(self.table.told() + [("ba", 0, (0, 400)), ("bb", 0, (0,))]))
        self.assertEqual([row[1] for row in bench.go(110) if row[1] in "uvwxy"], masked_babble(net, five(), "c"))


class Pauses(unittest.TestCase):
    def pause(self, old, old_table, new, new_table, slack=0):
        net = sample_net()
        before = (list(old), old_table.told(), list(new), new_table.told())
        told = pause(net, old, old_table, new, new_table, slack=slack)
        self.assertEqual((old, old_table.told(), new, new_table.told()), before)
        self.assertEqual(net, sample_net())
        self.assertEqual(told, plain_pause(old, old_table, new, new_table, slack))
        self.assertTrue(is_well(old, old_table, new, new_table, slack, told))
        self.assertFalse(told > 0 and is_well(old, old_table, new, new_table, slack, told - 1))
        return told

    def one(self, start, new_start, slack=0, **more):
        """The pause between z at one start and z at another, both on q."""
        frame = short("z", **more)
        return self.pause([frame], Table([("z", 0, (start,))]), [frame], Table([("z", 0, (new_start,))]), slack)

    def test_worked_out_by_hand(self):
        # The last going of z, by 30 and 4 long, is at 90 + 40, so it is off at 134.
        self.assertEqual(self.one(40, 0, every=30, long=4, last=100), 14)
        self.assertEqual(self.one(40, 10, every=30, long=4, last=100), 4)
        self.assertEqual(self.one(40, 13, every=30, long=4, last=100), 1)
        self.assertEqual(self.one(40, 14, every=30, long=4, last=100), 0)
        self.assertEqual(self.one(40, 15, every=30, long=4, last=100), 0)
        self.assertEqual(self.one(40, 13, 2, every=30, long=4, last=100), 3)
        self.assertEqual(self.one(40, 16, 2, every=30, long=4, last=100), 0)
        self.assertEqual(self.one(40, 15, 2, every=30, long=4, last=100), 1)

    def test_the_release_tells_which_goings_are_let_to_their_end(self):
        self.assertEqual(self.one(29, 29, every=30, long=4, release=29, last=100), 0)
        # 29 + 3 * 30 is below 120: that going is let go, though it starts at 119 + 30.
        self.assertEqual(self.one(59, 29, every=30, long=4, release=29, last=100), 4)
        self.assertEqual(self.one(119, 0, every=120, long=1, release=119, last=100), 0)
        self.assertEqual(self.one(0, 0, every=120, long=1), 0)
        self.assertEqual(self.one(300, 0, every=120, long=30, last=480), 210)

    def test_no_line_in_common(self):
        lot, table = [short("z", 30, 4, last=400)], Table([("z", 0, (300,))])
        other, rows = [Frame("y", (OTHER,), every=30)], Table([("y", 0, (0, 5))])
        self.assertEqual(self.pause(lot, table, other, rows), 0)
        self.assertEqual(self.pause(lot, table, [], Table()), 0)
        self.assertEqual(self.pause([], Table(), lot, table), 0)
        self.assertEqual(self.pause([], Table(), [], Table()), 0)

    def test_the_worst_line_counts(self):
        # On k x is off at 100 + 13 + 3 and y at 90 + 0 + 2; on m x at 100 + 19 + 3 and y at 90 + 5 + 2; on n and o
        # x at 100 + 4 + 3 and 100 + 8 + 3.
        self.assertEqual(self.pause(sample_lot(), Table(ROWS), sample_lot(), Table(ROWS), 1), 0)
        late = Table([("x", 0, (13, 25)), ("x", 1, (4, 29)), ("y", 0, (0, 11))])
        self.assertEqual(faults(sample_net(), sample_lot(), late, slack=1), [])
        self.assertEqual(self.pause(sample_lot(), late, sample_lot(), Table(ROWS), 1), 5)
        self.assertEqual(self.pause(sample_lot(), late, sample_lot(), Table(ROWS)), 4)

    def test_it_judges_no_lot(self):
        lot = [Frame("z", (SHORT,), every=4, long=4, last=1)]
        for slack in (30, 31, 40):
            self.assertEqual(pause(sample_net(), lot, Table([("z", 0, (0,))]), lot, Table([("z", 0, (0,))]), slack=slack),
                             slack)

    def test_held_against_a_plain_reckoning(self):
        chance, found = random.Random(31), [0, 0]
        for run in range(900):
            lots = []
            slack = chance.randint(0, 3)
            for turn in range(2):
                lots.append([Frame(name, chance.choice(((UPPER,), (OTHER,), (LONG,), (SHORT,), (UPPER, LOWER), (SHORT, LONG))),
                                   every=chance.choice((20, 24, 30, 40, 120)), long=chance.randint(1, 5),
                                   release=chance.randint(0, 19), last=chance.randint(16, 40))
                             for name in chance.sample("rstuv", chance.randint(1, 3))])
            try:
                old, new = [plan(sample_net(), lot, slack=slack) for lot in lots]
            except (Heavy, Late, Tight):
                continue
            if old is not None and new is not None:
                found[self.pause(lots[0], old, lots[1], new, slack) > 0] += 1
        self.assertGreater(min(found), 15)


if __name__ == "__main__":
    unittest.main()
