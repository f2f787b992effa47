"""Points 6, 10 and 15 where they speak of plans and least lots, and the interface of slotwright/lots.py."""

import itertools
import random
import unittest

from samples import UPPER, bad_lots, parameters, refused, sample_lot, sample_net, short
from slotwright.cases import holds, settle
from slotwright.errors import BadNumber, Full, Heavy, Late, Taken
from slotwright.frames import Frame
from slotwright.lots import least_lot, plan
from slotwright.net import Net
from slotwright.spans import HEAVY
from slotwright.tables import Table, faults, table_of
from slotwright.wants import chances, measure, windows

BOTH = (plan, least_lot)


def three_and_two():
    """p, r and s have no room together on q; t and u go by k and m beside them."""
    return [short("s"), Frame("u", (UPPER,), every=120, last=20), short("p"),
            Frame("t", (UPPER,), every=120, last=20), short("r")]


def has_table(net, frames, slack):
    """Whether there is a right timetable, by going through all starts."""
    spans = windows(net, frames, slack=slack)
    return any(faults(net, frames, table_of(frames, list(starts)), slack=slack) == []
               for starts in itertools.product(*[range(low, most + 1) for low, most in spans]))


def plain_least(net, frames, slack):
    """The names of the least lot: each frame in the order of names left out if the rest has no timetable."""
    lot = sorted(frames, key=lambda frame: frame.name)
    for frame in list(lot):
        rest = [other for other in lot if other.name != frame.name]
        if not has_table(net, rest, slack):
            lot = rest
    return [frame.name for frame in lot]


def random_lot(chance):
    """Frames on one line, close together."""
    names = chance.sample("abcdefgh", chance.randint(1, 4))
    return [short(name, chance.choice((5, 6, 8, 10, 12)), chance.randint(1, 3), chance.randint(0, 2), chance.randint(4, 7))
            for name in names]


class Interface(unittest.TestCase):
    def test_arguments_and_defaults(self):
        for deed in BOTH:
            self.assertEqual(parameters(deed), "(net, frames, *, slack=0, most=400)")
        self.assertEqual(HEAVY, 400)

    def test_by_names(self):
        self.assertEqual(plan(most=HEAVY, slack=1, frames=sample_lot(), net=sample_net()),
                         plan(sample_net(), sample_lot(), slack=1))
        self.assertIsNone(least_lot(most=HEAVY, slack=1, frames=sample_lot(), net=sample_net()))


class Refusals(unittest.TestCase):
    def test_lots_in_their_order(self):
        for deed in BOTH:
            for frames, slack, error, fields in bad_lots():
                refused(self, error, lambda: deed(sample_net(), frames, slack=slack), **fields)

    def test_lots_go_ahead_of_most_and_of_heavy(self):
        for deed in BOTH:
            for most in (-1, 401, True, False, 0):
                for frames, slack, error, fields in bad_lots():
                    refused(self, error, lambda: deed(sample_net(), frames, slack=slack, most=most), **fields)

    def test_most_goes_ahead_of_heavy(self):
        heavy = [short(name, last=480) for name in "pr"]
        for deed in BOTH:
            for lot in (heavy, sample_lot(), []):
                for most in (-1, 401, True, False, 10 ** 30, -10 ** 30):
                    refused(self, BadNumber, lambda: deed(sample_net(), lot, most=most))

    def test_most_at_the_measure_and_beside_it(self):
        net = sample_net()
        lots = [(sample_lot(), 1), ([short(name) for name in "prs"], 0), ([], 0), ([short("p")], 2), (three_and_two(), 0)]
        for frames, slack in lots:
            steps = measure(chances(net, frames, slack=slack))
            self.assertLess(steps, HEAVY)
            for deed in BOTH:
                refused(self, Heavy, lambda: deed(net, frames, slack=slack, most=steps - 1), cases=steps)
                refused(self, Heavy, lambda: deed(net, frames, slack=slack, most=0), cases=steps)
                told = deed(net, frames, slack=slack)
                self.assertEqual(deed(net, frames, slack=slack, most=steps), told)
                self.assertEqual(deed(net, frames, slack=slack, most=steps + 1), told)

    def test_heavy_where_nothing_is_told(self):
        net = sample_net()
        # In a round of 4 two of length 1 have a case for each four moments of both windows together.
        lot = [short("p", 4, 1, last=396), short("r", 4, 1, last=400), short("s", 4, 1, last=1)]
        self.assertGreater(measure(chances(net, lot)), HEAVY)
        for deed in BOTH:
            refused(self, Heavy, lambda: deed(net, lot), cases=measure(chances(net, lot)))
            refused(self, Heavy, lambda: deed(net, lot, most=HEAVY), cases=measure(chances(net, lot)))

    def test_nothing_is_changed_by_a_refusal(self):
        for deed in BOTH:
            for frames, slack, error, fields in bad_lots():
                net, before = sample_net(), list(frames)
                refused(self, error, lambda: deed(net, frames, slack=slack), **fields)
                self.assertEqual((net, frames), (sample_net(), before))


class Plans(unittest.TestCase):
    def test_worked_out_by_hand(self):
        table = plan(sample_net(), sample_lot(), slack=1)
        self.assertIsInstance(table, Table)
        self.assertEqual(table.told(), [("x", 0, (13, 19)), ("x", 1, (4, 8)), ("y", 0, (0, 5))])
        self.assertEqual(plan(sample_net(), sample_lot()[::-1], slack=1), table)

    def test_no_frames_and_one(self):
        self.assertEqual(plan(Net(), []), Table())
        self.assertEqual(plan(sample_net(), [], slack=30, most=1), Table())
        self.assertEqual(plan(sample_net(), sample_lot()[1:]).told(), [("x", 0, (4, 9)), ("x", 1, (4, 7))])

    def test_it_is_what_settle_tells(self):
        net = sample_net()
        for frames, slack in ((sample_lot(), 0), (sample_lot(), 2), (three_and_two()[:3], 0)):
            self.assertEqual(plan(net, frames, slack=slack), table_of(frames, settle(net, frames, slack=slack)[0]))

    def test_none(self):
        self.assertIsNone(plan(sample_net(), [short(name) for name in "prs"]))
        self.assertIsNone(plan(sample_net(), three_and_two()))
        # Two of length 3 have no room in a round of 8 with a slack of 2, whatever their windows.
        self.assertIsNone(plan(sample_net(), [short("p", last=20), short("r", last=20)], slack=2))
        self.assertIsNotNone(plan(sample_net(), [short("p", last=20), short("r", last=20)], slack=1))

    def test_held_against_all_starts(self):
        chance, net, found = random.Random(3), sample_net(), [0, 0]
        for turn in range(250):
            frames, slack = random_lot(chance), chance.randint(0, 1)
            try:
                table = plan(net, frames, slack=slack)
            except (Heavy, Late):
                continue
            self.assertEqual(table is not None, has_table(net, frames, slack))
            found[table is None] += 1
            if table is not None:
                self.assertEqual(faults(net, frames, table, slack=slack), [])
                self.assertEqual(len(table), sum(len(frame.ways) for frame in frames))
        self.assertGreater(min(found), 30)

    def test_nothing_is_changed(self):
        net, frames = sample_net(), sample_lot()
        table = plan(net, frames, slack=1)
        rows = table.told()
        frames.clear()
        net.drop("q")
        table.told().clear()
        self.assertEqual(table.told(), rows)
        self.assertEqual(plan(sample_net(), sample_lot(), slack=1).told(), rows)


class LeastLots(unittest.TestCase):
    def look_over(self, net, frames, slack=0):
        """The least lot, every part of it looked over."""
        before = list(frames)
        told = least_lot(net, frames, slack=slack)
        self.assertEqual(frames, before)
        self.assertIsInstance(told, tuple)
        names, leaves, others = told
        self.assertIsInstance(names, list)
        self.assertIsInstance(leaves, list)
        self.assertIsInstance(others, list)
        lot = [frame for frame in frames if frame.name in names]
        self.assertEqual(names, sorted(frame.name for frame in lot))
        self.assertIs(holds(net, lot, leaves, slack=slack), True)
        self.assertEqual([leaf[0] for leaf in leaves], [leaf[0] for leaf in settle(net, lot, slack=slack)[1]])
        self.assertEqual([name for name, table in others], names)
        for name, table in others:
            rest = [frame for frame in lot if frame.name != name]
            self.assertIsInstance(table, Table)
            self.assertEqual(faults(net, rest, table, slack=slack), [])
            self.assertEqual(len(table), sum(len(frame.ways) for frame in rest))
            self.assertEqual(table, plan(net, rest, slack=slack))
        return names

    def test_none_where_there_is_a_timetable(self):
        self.assertIsNone(least_lot(sample_net(), sample_lot(), slack=1))
        self.assertIsNone(least_lot(Net(), []))
        self.assertIsNone(least_lot(sample_net(), [short("p")]))

    def test_all_stay(self):
        self.assertEqual(self.look_over(sample_net(), [short(name) for name in "spr"]), ["p", "r", "s"])
        names, leaves, others = least_lot(sample_net(), [short(name) for name in "spr"])
        self.assertEqual([row[0] for row in leaves],
                         [(-1, -1, -1), (-1, -1, 0), (-1, 0), (0, -1), (0, 0, -1), (0, 0, 0)])
        self.assertEqual([(name, table.told()) for name, table in others], [
            ("p", [("r", 0, (3,)), ("s", 0, (0,))]), ("r", [("p", 0, (3,)), ("s", 0, (0,))]),
            ("s", [("p", 0, (3,)), ("r", 0, (0,))])])

    def test_others_are_left_out(self):
        self.assertEqual(self.look_over(sample_net(), three_and_two()), ["p", "r", "s"])

    def test_the_first_names_are_left_out_first(self):
        # Any three of the four have no room: the first one in the order of names goes.
        self.assertEqual(self.look_over(sample_net(), [short(name) for name in ("pq", "q", "p", "r")]), ["pq", "q", "r"])
        self.assertEqual(self.look_over(sample_net(), [short(name, last=8) for name in "zyxwv"][:4]), ["x", "y", "z"])

    def test_two_lots_without_a_timetable(self):
        two = [Frame(name, (UPPER,), every=8, long=3, last=15) for name in "abc"]
        self.assertEqual(self.look_over(sample_net(), two + [short("p"), short("q", long=6)]), ["p", "q"])
        two = [Frame(name, (UPPER,), every=8, long=3, last=15) for name in "xyz"]
        self.assertEqual(self.look_over(sample_net(), two + [short("p"), short("q", long=6)]), ["x", "y", "z"])

    def test_a_pair_without_a_chance(self):
        lot = [short("p", long=5), short("a", 120), short("r", long=4)]
        self.assertEqual(self.look_over(sample_net(), lot), ["p", "r"])
        names, leaves, others = least_lot(sample_net(), lot)
        self.assertEqual(leaves, [])
        self.assertEqual([(name, table.told()) for name, table in others],
                         [("p", [("r", 0, (0,))]), ("r", [("p", 0, (0,))])])

    def test_with_a_slack(self):
        lot = [short(name, every=12, long=2, last=12) for name in "prs"]
        self.assertIsNone(least_lot(sample_net(), lot, slack=1))
        self.assertEqual(self.look_over(sample_net(), lot, slack=3), ["p", "r", "s"])

    def test_held_against_all_starts(self):
        chance, net, found = random.Random(9), sample_net(), 0
        for turn in range(200):
            frames, slack = random_lot(chance), chance.randint(0, 1)
            try:
                told = least_lot(net, frames, slack=slack)
            except (Heavy, Late):
                continue
            self.assertEqual(told is None, has_table(net, frames, slack))
            if told is not None:
                found += 1
                self.assertEqual(self.look_over(net, frames, slack), plain_least(net, frames, slack))
        self.assertGreater(found, 30)

    def test_made_afresh(self):
        net, lot = sample_net(), three_and_two()
        names, leaves, others = least_lot(net, lot)
        names.clear()
        leaves[0][1].clear()
        leaves.clear()
        others.clear()
        lot_again = three_and_two()
        self.assertEqual(lot, lot_again)
        self.assertEqual(self.look_over(net, lot), ["p", "r", "s"])
        self.assertEqual(len(least_lot(net, lot)[2]), 3)

    def test_eight_frames_and_nine(self):
        lot = [short(name, last=3 if name < "g" else 8) for name in "abcdefgh"]
        # f, g and h are three of length 3 in a round of 8.
        self.assertEqual(self.look_over(sample_net(), lot), ["f", "g", "h"])
        refused(self, Full, lambda: least_lot(sample_net(), lot + [short("i")]))
        refused(self, Taken, lambda: least_lot(sample_net(), lot[1:] + [short("h")]), name="h")


if __name__ == "__main__":
    unittest.main()
