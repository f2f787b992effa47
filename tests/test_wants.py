"""Points 6, 8, 9 and 10 (the measure), and the interface of slotwright/wants.py."""

import itertools
import random
import unittest

from slotwright.cases import holds, settle
from slotwright.errors import BadNumber, BadWay, Full, Late, NetError, Taken, Tight
from slotwright.frames import Frame
from slotwright.net import Net
from slotwright.spans import apart
from slotwright.tables import Table, faults
from slotwright.wants import chances, firm, judge_lot, measure, order, pairs, windows

UPPER = ("a", "k", "g", "m", "b")
LOWER = ("a", "n", "h", "o", "b")
OTHER = ("c", "k", "g", "m", "b")
LONG = ("c", "k", "g", "p", "h", "o", "b")
SHORT = ("c", "q", "b")


def sample_net():
    """Houses a, b and c, gates g and h; k and m go over g, n and o over h, p from g to h, q straight."""
    net = Net()
    for name in ("a", "b", "c"):
        net.house(name)
    for name in ("g", "h"):
        net.gate(name)
    net.line("k", ("a", "c"), ("g",), wire=2)
    net.line("m", ("g",), ("b",), wire=3)
    net.line("n", ("a",), ("h",), wire=0)
    net.line("o", ("h",), ("b",), wire=1)
    net.line("p", ("g",), ("h",))
    net.line("q", ("c",), ("b",), wire=30)
    return net


def sample_lot():
    """Two frames, not in the order of names: y by one way, x by two."""
    return [Frame("y", (OTHER,), every=30, long=2, release=0, last=25),
            Frame("x", (UPPER, LOWER), every=20, long=3, release=4, last=30)]


# Every function that is handed a net, frames and a slack.
JUDGES = (
    ("judge_lot", judge_lot), ("firm", firm), ("windows", windows), ("pairs", pairs), ("chances", chances),
    ("settle", settle),
    ("settle with another most", lambda net, frames, *, slack=0: settle(net, frames, slack=slack, most=-1)),
    ("settle with no most", lambda net, frames, *, slack=0: settle(net, frames, slack=slack, most=0)),
    ("holds", lambda net, frames, *, slack=0: holds(net, frames, [], slack=slack)),
    ("holds of others", lambda net, frames, *, slack=0: holds(net, frames, [((7,), [])], slack=slack)),
    ("faults", lambda net, frames, *, slack=0: faults(net, frames, Table(), slack=slack)),
    ("faults of another", lambda net, frames, *, slack=0: faults(
        net, frames, Table([("zz", 0, (1, 2)), ("y", 1, (3,))]), slack=slack)),
)


class Judged(unittest.TestCase):
    def refused(self, error, net, frames, slack=0, **fields):
        """All of them refuse the lot with just this error, and change nothing."""
        for name, judge in JUDGES:
            with self.subTest(judge=name):
                twin, lot = net.twin(), list(frames)
                with self.assertRaises(NetError) as caught:
                    judge(net, frames, slack=slack)
                self.assertIs(caught.exception.__class__, error)
                for field, value in fields.items():
                    self.assertEqual(getattr(caught.exception, field), value)
                self.assertEqual(net, twin)
                self.assertEqual(frames, lot)

    def good(self, net, frames, slack=0):
        self.assertIsNone(judge_lot(net, frames, slack=slack))
        for judge in (firm, windows, pairs, chances):
            judge(net, frames, slack=slack)
        holds(net, frames, [], slack=slack)
        faults(net, frames, Table(), slack=slack)

    def test_good_lots(self):
        self.good(sample_net(), sample_lot())
        self.good(sample_net(), sample_lot(), 1)
        self.good(sample_net(), [])
        self.good(Net(), [])
        self.assertIsNone(judge_lot(sample_net(), sample_lot()))

    def test_the_slack_is_nought_where_none_is_told(self):
        net = sample_net()
        lot = [Frame("w", (SHORT,), every=4, long=4, last=34)]
        for judge in (judge_lot, firm, windows, pairs, chances, settle):
            judge(net, lot)
            with self.assertRaises(Tight):
                judge(net, lot, slack=1)
        self.assertIs(holds(net, lot, []), False)
        self.assertEqual(faults(net, lot, Table([("w", 0, (0,))])), [])

    def test_slacks(self):
        net = sample_net()
        for slack in (-1, 31, 10 ** 30, -10 ** 30, True, False):
            self.refused(BadNumber, net, [], slack)
            self.refused(BadNumber, net, sample_lot(), slack)
        self.good(net, [], 30)
        self.good(net, [Frame("w", (SHORT,), every=60)], 30)

    def test_more_than_eight(self):
        net = sample_net()
        lot = [Frame("f" + letter, (SHORT,), every=120) for letter in "hgfedcba"]
        self.good(net, lot)
        self.refused(Full, net, lot + [Frame("w", (SHORT,), every=120)])
        self.refused(Full, net, lot + [Frame("w", (SHORT,), every=120), Frame("v", (SHORT,), every=120)])

    def test_a_name_twice(self):
        net = sample_net()
        one, two = sample_lot()
        self.refused(Taken, net, [one, two, Frame("y", (SHORT,), every=120)], name="y")
        self.refused(Taken, net, [one, one, two, two], name="x")
        self.refused(Taken, net, [two, one, one, two], name="x")
        self.refused(Taken, net, [one, one], name="y")

    def test_ways_that_do_not_lie_in_the_net(self):
        net = sample_net()
        bad = (("a", "q", "b"), ("c", "k", "b"), ("a", "k", "h", "m", "b"), ("g", "m", "b"), ("a", "z", "b"),
               ("z", "k", "g", "m", "b"), ("a", "k", "g", "m", "c"))
        for way in bad:
            self.refused(BadWay, net, [Frame("w", (way,), every=120)])
        for way in (("a", "k", "b"), ("a", "q", "b"), ("a", "z", "b")):
            self.refused(BadWay, net, [Frame("w", (LOWER, way), every=120)])
            self.refused(BadWay, net, [Frame("w", (way, LOWER), every=120)])
        self.refused(BadWay, Net(), sample_lot())

    def test_too_long_for_the_round(self):
        net = sample_net()
        self.refused(Tight, net, [Frame("w", (SHORT,), every=4, long=5)], 0, name="w")
        self.good(net, [Frame("w", (SHORT,), every=4, long=4)], 0)
        self.refused(Tight, net, [Frame("w", (SHORT,), every=4, long=4)], 1, name="w")
        self.good(net, [Frame("w", (SHORT,), every=4, long=3)], 1)
        self.refused(Tight, net, [Frame("w", (SHORT,), every=30, long=1)], 30, name="w")
        self.good(net, [Frame("w", (SHORT,), every=30, long=1)], 29)

    def test_too_late(self):
        net = sample_net()
        # k and m take 3 + 2 + 1 and 3 + 3 + 1, n and o 3 + 0 + 1 and 3 + 1 + 1.
        self.refused(Late, net, [Frame("w", (UPPER,), every=20, long=3, last=12)], 1, name="w", least=13)
        self.good(net, [Frame("w", (UPPER,), every=20, long=3, last=13)], 1)
        self.refused(Late, net, [Frame("w", (UPPER, LOWER), every=20, long=3, last=8)], 1, name="w", least=13)
        self.refused(Late, net, [Frame("w", (LOWER, UPPER), every=20, long=3, last=12)], 1, name="w", least=13)
        self.refused(Late, net, [Frame("w", (LOWER,), every=20, long=3, last=8)], 1, name="w", least=9)
        self.good(net, [Frame("w", (LOWER,), every=20, long=3, last=9)], 1)
        self.refused(Late, net, [Frame("w", (LONG,), every=20, long=2, release=19, last=9)], 0, name="w", least=10)
        self.good(net, [Frame("w", (LONG,), every=20, long=2, release=19, last=10)], 0)
        self.refused(Late, net, [Frame("w", (SHORT,), every=20, long=1, last=30)], 0, name="w", least=31)

    def test_what_is_told_first_goes_first(self):
        net = sample_net()
        none = Frame("f", (("a", "q", "b"),), every=4, long=5, last=1)
        tight = Frame("e", (SHORT,), every=4, long=5, last=1)
        late = Frame("d", (SHORT,), every=4, long=4, last=1)
        nine = [Frame("f" + letter, (SHORT,), every=120) for letter in "abcdefg"] + [none, none]
        self.refused(BadNumber, net, nine, 31)
        self.refused(BadNumber, net, [none, none], True)
        self.refused(Full, net, nine)
        self.refused(Taken, net, [none, none], name="f")
        self.refused(Taken, net, [late, tight, none, none], name="f")
        self.refused(BadWay, net, [none])
        self.refused(Tight, net, [tight], name="e")
        self.refused(Late, net, [late], name="d", least=34)

    def test_frame_by_frame_in_the_order_of_names(self):
        net = sample_net()
        rows = [(BadWay, lambda name: Frame(name, (("a", "q", "b"),), every=20)),
                (Tight, lambda name: Frame(name, (SHORT,), every=4, long=5)),
                (Late, lambda name: Frame(name, (SHORT,), every=4, last=30))]
        for (error, make), (other, make_other) in itertools.permutations(rows, 2):
            self.refused(error, net, [make("u"), make_other("v")])
            self.refused(error, net, [make_other("v"), make("u")])
            self.refused(error, net, [make_other("w"), Frame("t", (SHORT,), every=20), make("u")])

    def test_kept_rows_beside_a_bad_lot(self):
        net = sample_net()
        bad = [Frame("w", (SHORT,), every=20, last=30)]
        for judge in (firm, windows, chances, settle):
            with self.assertRaises(Late):
                judge(net, bad, kept=(("w", 0, (0,)),))


class Order(unittest.TestCase):
    def test_by_names_ways_and_lines(self):
        wanted = [("x", 0, 0), ("x", 0, 1), ("x", 1, 0), ("x", 1, 1), ("y", 0, 0), ("y", 0, 1)]
        lot = sample_lot()
        self.assertEqual(order(lot), wanted)
        self.assertEqual([frame.name for frame in lot], ["y", "x"])
        self.assertEqual(order(lot[::-1]), wanted)
        self.assertEqual(order(frames=tuple(lot)), wanted)
        self.assertEqual(order([]), [])

    def test_three_lines_and_one(self):
        lot = [Frame("ab", (SHORT, LONG), every=8), Frame("aa", (SHORT,), every=8), Frame("b", (LONG,), every=8)]
        self.assertEqual(order(lot), [("aa", 0, 0), ("ab", 0, 0), ("ab", 1, 0), ("ab", 1, 1), ("ab", 1, 2),
                                      ("b", 0, 0), ("b", 0, 1), ("b", 0, 2)])

    def test_it_asks_for_no_net_and_judges_nothing(self):
        frame = Frame("w", (("aa", "bb", "cc"),), every=4, long=30, last=1)
        self.assertEqual(order([frame]), [("w", 0, 0)])

    def test_made_afresh(self):
        lot = sample_lot()
        order(lot).clear()
        self.assertEqual(len(order(lot)), 6)


FIRM = {(0, 1, 4), (1, 2, 6), (2, 0, -27), (0, 3, 4), (3, 4, 4), (4, 0, -29), (0, 5, 0), (5, 6, 5), (6, 0, -19)}


class Firm(unittest.TestCase):
    def test_worked_out_by_hand(self):
        # With a slack of 1 x takes 6 and 7 by its first way, 4 and 5 by its second, and y 5 and 6.
        wants = firm(sample_net(), sample_lot(), slack=1)
        self.assertIsInstance(wants, list)
        self.assertEqual(set(wants), FIRM)
        self.assertEqual(set(firm(sample_net(), sample_lot()[::-1], kept=(), slack=1)), FIRM)

    def test_without_slack(self):
        self.assertEqual(set(firm(sample_net(), sample_lot())), {
            (0, 1, 4), (1, 2, 5), (2, 0, -28), (0, 3, 4), (3, 4, 3), (4, 0, -30), (0, 5, 0), (5, 6, 4), (6, 0, -20)})

    def test_one_line_and_three(self):
        net = sample_net()
        self.assertEqual(set(firm(net, [Frame("w", (SHORT,), every=20, long=2, release=7, last=40)], slack=3)),
                         {(0, 1, 7), (1, 0, -12)})
        self.assertEqual(set(firm(net, [Frame("w", (LONG,), every=20, long=2, release=7, last=40)], slack=3)),
                         {(0, 1, 7), (1, 2, 7), (2, 3, 6), (3, 0, -41)})

    def test_no_frames(self):
        self.assertEqual(firm(sample_net(), []), [])

    def test_kept_rows_fix_their_starts_beside_the_others(self):
        net, lot = sample_net(), sample_lot()
        wants = firm(net, lot, slack=1, kept=(("y", 0, (2, 9)),))
        self.assertEqual(set(wants), FIRM | {(0, 5, 2), (5, 0, -2), (0, 6, 9), (6, 0, -9)})
        wants = firm(net, lot, slack=1, kept=(("y", 0, (2, 9)), ("x", 1, (5, 11))))
        self.assertEqual(set(wants), FIRM | {(0, 5, 2), (5, 0, -2), (0, 6, 9), (6, 0, -9),
                                             (0, 3, 5), (3, 0, -5), (0, 4, 11), (4, 0, -11)})

    def test_kept_rows_that_are_broken_are_taken_as_they_are(self):
        wants = firm(sample_net(), sample_lot(), slack=1, kept=(("x", 0, (-3, 200)),))
        self.assertEqual(set(wants), FIRM | {(0, 1, -3), (1, 0, 3), (0, 2, 200), (2, 0, -200)})

    def test_made_afresh(self):
        net, lot = sample_net(), sample_lot()
        firm(net, lot, slack=1).clear()
        self.assertEqual(set(firm(net, lot, slack=1)), FIRM)


class Windows(unittest.TestCase):
    def test_worked_out_by_hand(self):
        wanted = [(4, 21), (10, 27), (4, 25), (8, 29), (0, 14), (5, 19)]
        self.assertEqual(windows(sample_net(), sample_lot(), slack=1), wanted)
        self.assertEqual(windows(sample_net(), sample_lot()[::-1], kept=(), slack=1), wanted)

    def test_without_slack(self):
        self.assertEqual(windows(sample_net(), sample_lot()),
                         [(4, 23), (9, 28), (4, 27), (7, 30), (0, 16), (4, 20)])

    def test_three_lines(self):
        frame = Frame("w", (LONG,), every=20, long=2, release=7, last=40)
        self.assertEqual(windows(sample_net(), [frame], slack=3), [(7, 28), (14, 35), (20, 41)])

    def test_a_window_of_one_moment(self):
        frame = Frame("w", (LONG,), every=20, long=2, release=7, last=19)
        self.assertEqual(windows(sample_net(), [frame], slack=3), [(7, 7), (14, 14), (20, 20)])

    def test_no_frames(self):
        self.assertEqual(windows(sample_net(), []), [])

    def test_kept_starts(self):
        net, lot = sample_net(), sample_lot()
        self.assertEqual(windows(net, lot, slack=1, kept=(("y", 0, (2, 9)),)),
                         [(4, 21), (10, 27), (4, 25), (8, 29), (2, 2), (9, 9)])
        self.assertEqual(windows(net, lot, slack=1, kept=(("y", 0, (2, 9)), ("x", 0, (300, -5)))),
                         [(300, 300), (-5, -5), (4, 25), (8, 29), (2, 2), (9, 9)])
        # The other way of a frame with a kept row has its own window still.
        self.assertEqual(windows(net, lot, slack=1, kept=(("x", 1, (8, 20)),)),
                         [(4, 21), (10, 27), (8, 8), (20, 20), (0, 14), (5, 19)])

    def test_made_afresh(self):
        net, lot = sample_net(), sample_lot()
        windows(net, lot).clear()
        self.assertEqual(len(windows(net, lot)), 6)


class Pairs(unittest.TestCase):
    def test_worked_out_by_hand(self):
        wanted = [(1, 5, 10, 4, 3), (2, 6, 10, 4, 3)]
        self.assertEqual(pairs(sample_net(), sample_lot(), slack=1), wanted)
        self.assertEqual(pairs(sample_net(), sample_lot()[::-1], slack=1), wanted)
        self.assertEqual(pairs(sample_net(), sample_lot()), [(1, 5, 10, 3, 2), (2, 6, 10, 3, 2)])

    def test_they_go_by_the_first_and_then_by_the_second(self):
        lot = [Frame("w", (LONG,), every=24, long=4), Frame("v", (LOWER, UPPER), every=40, long=2),
               Frame("u", (OTHER,), every=60, long=1)]
        # u: 1 on k, 2 on m; v: 3 on n, 4 on o, 5 on k, 6 on m; w: 7 on k, 8 on p, 9 on o.
        self.assertEqual(pairs(sample_net(), lot, slack=2), [
            (1, 5, 20, 3, 4), (1, 7, 12, 3, 6), (2, 6, 20, 3, 4), (4, 9, 8, 4, 6), (5, 7, 8, 4, 6)])

    def test_none_on_one_line(self):
        self.assertEqual(pairs(sample_net(), []), [])
        self.assertEqual(pairs(sample_net(), [Frame("w", (UPPER, LOWER), every=20)]), [])
        self.assertEqual(pairs(sample_net(), [Frame("w", (LOWER,), every=20), Frame("v", (OTHER,), every=20)]), [])

    def test_made_afresh(self):
        net, lot = sample_net(), sample_lot()
        pairs(net, lot).clear()
        self.assertEqual(len(pairs(net, lot)), 2)


def plain_chances(pair, window, other):
    """By going through all two moments and the numbers near them."""
    i, j, g, a, b = pair
    found = set()
    for x in range(window[0], window[1] + 1):
        for y in range(other[0], other[1] + 1):
            for n in range((y - x) // g - 2, (y - x) // g + 3):
                if y >= x + n * g + a and x >= y + b - (n + 1) * g:
                    found.add(n)
    return (min(found), len(found)) if found else (0, 0)


class Chances(unittest.TestCase):
    def test_worked_out_by_hand(self):
        # The second start less the first is from -21 to 10, and from -22 to 9; n * 10 + 4 up to n * 10 + 7 are apart.
        self.assertEqual(chances(sample_net(), sample_lot(), slack=1), [(-2, 3), (-2, 3)])
        self.assertEqual(chances(sample_net(), sample_lot()[::-1], kept=(), slack=1), [(-2, 3), (-2, 3)])

    def test_kept_rows(self):
        net, lot = sample_net(), sample_lot()
        # From -21 to -4, and from -22 to -5.
        self.assertEqual(chances(net, lot, slack=1, kept=(("y", 0, (0, 5)),)), [(-2, 2), (-2, 2)])
        # For n = -1 from -6 up to -3 are apart: 5 - 11 and 11 - 17 are -6, 10 - 17 is -7.
        self.assertEqual(chances(net, lot, slack=1, kept=(("y", 0, (5, 10)), ("x", 0, (11, 17)))), [(-1, 1), (0, 0)])
        self.assertEqual(chances(net, lot, slack=1, kept=(("y", 0, (5, 11)), ("x", 0, (11, 17)))), [(-1, 1), (-1, 1)])
        self.assertEqual(chances(net, lot, slack=1, kept=(("x", 1, (4, 8)),)), [(-2, 3), (-2, 3)])

    def test_both_lengths_just_fill_the_common_part_or_are_one_more(self):
        net = sample_net()
        for long, wanted in ((5, (-1, 2)), (6, (0, 0))):
            lot = [Frame("v", (SHORT,), every=8, long=3, last=40), Frame("w", (SHORT,), every=8, long=long, last=40)]
            self.assertEqual(chances(net, lot), [wanted])

    def test_windows_too_narrow_for_any_case(self):
        lot = [Frame("v", (SHORT,), every=8, long=3, last=33), Frame("w", (SHORT,), every=8, long=3, last=33)]
        self.assertEqual(chances(sample_net(), lot), [(0, 0)])
        self.assertEqual(windows(sample_net(), lot), [(0, 0), (0, 0)])

    def test_edges_of_both_windows(self):
        net = sample_net()
        for moment, wanted in ((5, (0, 1)), (4, (0, 1)), (3, (0, 1)), (2, (0, 0)), (6, (0, 0)), (7, (0, 0)),
                               (11, (1, 1)), (10, (0, 0)), (-3, (-1, 1)), (-5, (-1, 1)), (-2, (0, 0)), (-6, (0, 0))):
            lot = [Frame("v", (SHORT,), every=8, long=3), Frame("w", (SHORT,), every=8, long=3)]
            kept = (("v", 0, (0,)), ("w", 0, (moment,)))
            self.assertEqual(chances(net, lot, kept=kept), [wanted], moment)

    def test_starts_however_far_apart(self):
        lot = [Frame("v", (SHORT,), every=8, long=3), Frame("w", (SHORT,), every=8, long=3)]
        far = 8 * 10 ** 30
        self.assertEqual(chances(sample_net(), lot, kept=(("v", 0, (0,)), ("w", 0, (far + 4,)))), [(10 ** 30, 1)])
        self.assertEqual(chances(sample_net(), lot, kept=(("v", 0, (far,)), ("w", 0, (4,)))), [(-10 ** 30, 1)])

    def test_held_against_going_through_all_moments(self):
        net = sample_net()
        chance = random.Random(6)
        for turn in range(150):
            rounds = chance.choice(((4, 8, 12), (10, 15, 20), (24, 30, 120)))
            slack = chance.randint(0, 1)
            lot = [Frame(name, (SHORT,), every=chance.choice(rounds), long=chance.randint(1, 3),
                         release=chance.randint(0, 3), last=34 + chance.randint(0, 15)) for name in "wvu"]
            spans = windows(net, lot, slack=slack)
            wanted = [plain_chances(pair, spans[pair[0] - 1], spans[pair[1] - 1])
                      for pair in pairs(net, lot, slack=slack)]
            self.assertEqual(chances(net, lot, slack=slack), wanted)

    def test_two_moments_are_apart_just_where_they_have_a_case(self):
        net = sample_net()
        lot = [Frame("v", (SHORT,), every=24, long=3), Frame("w", (SHORT,), every=40, long=1)]
        for moment in range(-30, 30):
            kept = (("v", 0, (5,)), ("w", 0, (5 + moment,)))
            many = chances(net, lot, kept=kept, slack=1)[0][1]
            self.assertEqual(many == 1, apart((5, 24, 3), (5 + moment, 40, 1), slack=1))

    def test_made_afresh(self):
        net, lot = sample_net(), sample_lot()
        chances(net, lot).clear()
        self.assertEqual(len(chances(net, lot)), 2)


class Measure(unittest.TestCase):
    def test_worked_out_by_hand(self):
        self.assertEqual(measure([]), 1)
        self.assertEqual(measure([(0, 1)]), 2)
        self.assertEqual(measure([(5, 3)]), 4)
        self.assertEqual(measure([(-2, 3), (-2, 3)]), 13)
        self.assertEqual(measure([(-2, 2), (7, 3), (0, 4)]), 1 + 2 + 6 + 24)
        self.assertEqual(measure(chances=[(0, 4), (0, 3), (0, 2)]), 1 + 4 + 12 + 24)

    def test_no_chance_counts_as_one(self):
        self.assertEqual(measure([(0, 0)]), 2)
        self.assertEqual(measure([(0, 0), (1, 3)]), 1 + 1 + 3)
        self.assertEqual(measure([(1, 3), (0, 0), (2, 2)]), 1 + 3 + 3 + 6)

    def test_of_a_lot(self):
        net, lot = sample_net(), sample_lot()
        self.assertEqual(measure(chances(net, lot, slack=1)), 13)
        self.assertEqual(measure(chances(net, lot, slack=1, kept=(("y", 0, (0, 5)),))), 7)

    def test_however_large(self):
        self.assertEqual(measure([(0, 10 ** 30), (0, 10 ** 30)]), 1 + 10 ** 30 + 10 ** 60)
        told = [(0, 2), (1, 3)]
        measure(told)
        self.assertEqual(told, [(0, 2), (1, 3)])


class NothingChanged(unittest.TestCase):
    def test_what_is_handed_in_stays_as_it_was(self):
        net, lot = sample_net(), sample_lot()
        names = [frame.name for frame in lot]
        kept = (("y", 0, (0, 5)),)
        judge_lot(net, lot, slack=1)
        firm(net, lot, slack=1, kept=kept)
        windows(net, lot, slack=1, kept=kept)
        pairs(net, lot, slack=1)
        chances(net, lot, slack=1, kept=kept)
        self.assertEqual([frame.name for frame in lot], names)
        self.assertEqual(lot, sample_lot())
        self.assertEqual(net, sample_net())

    def test_all_by_their_names(self):
        net, lot = sample_net(), sample_lot()
        self.assertIsNone(judge_lot(slack=1, frames=lot, net=net))
        self.assertEqual(len(set(firm(kept=(), slack=1, frames=lot, net=net))), 9)
        self.assertEqual(windows(kept=(), slack=0, frames=lot, net=net), windows(net, lot))
        self.assertEqual(pairs(slack=0, frames=lot, net=net), pairs(net, lot))
        self.assertEqual(chances(kept=(), slack=0, frames=lot, net=net), chances(net, lot))


if __name__ == "__main__":
    unittest.main()
