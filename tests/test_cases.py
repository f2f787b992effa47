"""Points 10 (Heavy), 11 and 12, and the interface of slotwright/cases.py."""

import itertools
import random
import unittest

from slotwright.cases import holds, settle
from slotwright.errors import BadNumber, Heavy, Late, NetError, Taken
from slotwright.frames import Frame
from slotwright.net import Net
from slotwright.spans import HEAVY
from slotwright.wants import chances, firm, measure, order, pairs, windows

UPPER = ("a", "k", "g", "m", "b")
LOWER = ("a", "n", "h", "o", "b")
OTHER = ("c", "k", "g", "m", "b")
SHORT = ("c", "q", "b")
SIDE = ("c", "z", "b")


def sample_net():
    """Houses a, b and c, gates g and h; k and m go over g, n and o over h, q and z straight."""
    net = Net()
    for name in ("a", "b", "c"):
        net.house(name)
    for name in ("g", "h"):
        net.gate(name)
    net.line("k", ("a", "c"), ("g",), wire=2)
    net.line("m", ("g",), ("b",), wire=3)
    net.line("n", ("a",), ("h",), wire=0)
    net.line("o", ("h",), ("b",), wire=1)
    net.line("q", ("c",), ("b",), wire=0)
    net.line("z", ("c",), ("b",), wire=0)
    return net


def sample_lot():
    """Two frames that have a timetable with a slack of 1."""
    return [Frame("y", (OTHER,), every=30, long=2, release=0, last=25),
            Frame("x", (UPPER, LOWER), every=20, long=3, release=4, last=30)]


def three(last, names="prs"):
    """Three frames of length 3 on one line in a round of 8: there is no room for all three."""
    return [Frame(name, (SHORT,), every=8, long=3, last=last) for name in reversed(names)]


def case_wants(pair, case):
    i, j, g, a, b = pair
    return [(i, j, case * g + a), (j, i, b - (case + 1) * g)]


def plain_ring(wants):
    """Whether the list is a ring, by walking along it."""
    if not isinstance(wants, list) or not wants:
        return False
    at = wants[0][0]
    for i, j, number in wants:
        if i != at:
            return False
        at = j
    return at == wants[0][0] and sum(number for i, j, number in wants) > 0


def plain_least(count, wants):
    """The least numbers from 0 up by raising them, or None: here no number is above some thousands."""
    numbers = [0] * count
    while max(numbers) < 5000:
        raised = [max([numbers[j]] + [numbers[i] + number for i, to, number in wants if to == j]) for j in range(count)]
        if raised == numbers:
            return numbers
        numbers = raised
    return None


def plain_settle(net, frames, slack, kept):
    """What settle has to tell, the leaves without their rings."""
    spans = chances(net, frames, slack=slack, kept=kept)
    rows = pairs(net, frames, slack=slack)
    if any(many == 0 for low, many in spans):
        return None, []
    leaves = []

    def go_on(taken):
        wants = firm(net, frames, slack=slack, kept=kept)
        for pair, case in zip(rows, taken):
            wants = wants + case_wants(pair, case)
        numbers = plain_least(len(order(frames)) + 1, wants)
        if numbers is None:
            leaves.append(taken)
            return None
        if len(taken) == len(rows):
            return numbers[1:]
        low, many = spans[len(taken)]
        for case in range(low, low + many):
            found = go_on(taken + (case,))
            if found is not None:
                return found
        return None

    starts = go_on(())
    return (starts, None) if starts is not None else (None, leaves)


class CasesTest(unittest.TestCase):
    def check_leaves(self, net, frames, leaves, taken, slack=0, kept=()):
        """The leaves are just of these cases in this order, each with a ring of the wants it may use."""
        self.assertIsInstance(leaves, list)
        self.assertEqual([leaf[0] for leaf in leaves], taken)
        rows = pairs(net, frames, slack=slack)
        for leaf in leaves:
            self.assertIsInstance(leaf, tuple)
            self.assertEqual(len(leaf), 2)
            allowed = set(firm(net, frames, slack=slack, kept=kept))
            for pair, case in zip(rows, leaf[0]):
                allowed |= set(case_wants(pair, case))
            self.assertTrue(plain_ring(leaf[1]), leaf)
            self.assertLessEqual(set(leaf[1]), allowed)
        self.assertIs(holds(net, frames, leaves, slack=slack, kept=kept), True)

    def refused(self, error, deed, **fields):
        with self.assertRaises(NetError) as caught:
            deed()
        self.assertIs(caught.exception.__class__, error)
        for field, value in fields.items():
            self.assertEqual(getattr(caught.exception, field), value)


class Settled(CasesTest):
    def test_no_frames(self):
        self.assertEqual(settle(Net(), []), ([], None))
        self.assertEqual(settle(sample_net(), [], slack=30, kept=(), most=1), ([], None))

    def test_one_frame(self):
        frame = Frame("x", (UPPER, LOWER), every=20, long=3, release=4, last=30)
        self.assertEqual(settle(sample_net(), [frame], slack=1), ([4, 10, 4, 8], None))
        self.assertEqual(settle(sample_net(), [frame]), ([4, 9, 4, 7], None))

    def test_the_first_row_of_cases_worked_out_by_hand(self):
        # The first case of both pairs is -2: x at least 13 behind y, y at least x less 16.
        net, lot = sample_net(), sample_lot()
        self.assertEqual(settle(net, lot, slack=1), ([13, 19, 4, 8, 0, 5], None))
        self.assertEqual(settle(net, lot[::-1], slack=1), ([13, 19, 4, 8, 0, 5], None))

    def test_kept_rows(self):
        net, lot = sample_net(), sample_lot()
        # y is kept at 3 and 10: 13 behind these are 16 and 23.
        self.assertEqual(settle(net, lot, slack=1, kept=(("y", 0, (3, 10)),)), ([16, 23, 4, 8, 3, 10], None))
        self.assertEqual(settle(net, lot, slack=1, kept=(("x", 1, (7, 20)),)), ([13, 19, 7, 20, 0, 5], None))
        # x is kept at 4 and 12: y less it is from -6 to -3, or 4 to 7.
        self.assertEqual(settle(net, lot, slack=1, kept=(("x", 0, (4, 12)),)), ([4, 12, 4, 8, 0, 6], None))
        self.assertEqual(settle(net, lot, slack=1, kept=(("x", 0, (4, 12)), ("y", 0, (8, 16)))),
                         ([4, 12, 4, 8, 8, 16], None))

    def test_the_first_case_is_not_always_the_one(self):
        # p is kept at 0: r must be 3 behind it or 3 ahead of 8, and case 0 is the only one within its window.
        lot = [Frame("p", (SHORT,), every=8, long=3, last=8), Frame("r", (SHORT,), every=8, long=3, last=8)]
        self.assertEqual(chances(sample_net(), lot), [(-1, 2)])
        self.assertEqual(settle(sample_net(), lot), ([3, 0], None))
        self.assertEqual(settle(sample_net(), lot, kept=(("p", 0, (0,)),)), ([0, 3], None))
        self.assertEqual(settle(sample_net(), lot, kept=(("p", 0, (2,)),)), ([2, 5], None))

    def test_a_row_of_cases_behind_several_leaves(self):
        # In a round of 10 there is room for three of length 3, whose windows are 0 to 7.
        lot = [Frame(name, (SHORT,), every=10, long=3, last=10) for name in "prs"]
        self.assertEqual(chances(sample_net(), lot), [(-1, 2)] * 3)
        # -1, -1, -1: p is 3 behind r, r 3 behind s.
        self.assertEqual(settle(sample_net(), lot), ([6, 3, 0], None))
        self.assertEqual(settle(sample_net(), lot, kept=(("s", 0, (3,)),)), ([6, 0, 3], None))
        self.assertEqual(settle(sample_net(), lot, kept=(("s", 0, (7,)),)), ([3, 0, 7], None))
        self.assertEqual(settle(sample_net(), lot, kept=(("p", 0, (0,)), ("r", 0, (3,)))), ([0, 3, 6], None))

    def test_least_starts_though_others_are_pushed(self):
        lot = [Frame("p", (SHORT,), every=24, long=4, release=5, last=60),
               Frame("r", (SHORT,), every=24, long=4, release=20, last=6)]
        # The first case is -2: p at least 28 behind r, not at its own least moment 5.
        self.assertEqual(windows(sample_net(), lot), [(5, 61), (20, 22)])
        self.assertEqual(chances(sample_net(), lot), [(-2, 3)])
        self.assertEqual(settle(sample_net(), lot), ([48, 20], None))

    def test_it_is_made_afresh_and_changes_nothing(self):
        net, lot = sample_net(), sample_lot()
        settle(net, lot, slack=1)[0].clear()
        self.assertEqual(settle(most=HEAVY, kept=(), slack=1, frames=lot, net=net), ([13, 19, 4, 8, 0, 5], None))
        self.assertEqual(lot, sample_lot())
        self.assertEqual(net, sample_net())
        lot = three(8)
        settle(net, lot)[1].clear()
        settle(net, lot)[1][0][1].clear()
        self.assertEqual(len(settle(net, lot)[1]), 6)
        self.assertTrue(all(plain_ring(leaf[1]) for leaf in settle(net, lot)[1]))
        self.assertEqual([frame.name for frame in lot], ["s", "r", "p"])


class Leaves(CasesTest):
    def none(self, net, frames, taken, slack=0, kept=(), most=HEAVY):
        starts, leaves = settle(net, frames, slack=slack, kept=kept, most=most)
        self.assertIsNone(starts)
        self.check_leaves(net, frames, leaves, taken, slack, kept)

    def test_all_rows_of_cases_are_leaves(self):
        # With windows of 0 to 7 any two have room, whatever their case, but never all three.
        self.assertEqual(chances(sample_net(), three(10)), [(-1, 2)] * 3)
        self.none(sample_net(), three(10), list(itertools.product((-1, 0), repeat=3)))

    def test_leaves_at_several_depths(self):
        # With windows of 0 to 5 one cannot stand between two others either.
        self.none(sample_net(), three(8), [(-1, -1, -1), (-1, -1, 0), (-1, 0), (0, -1), (0, 0, -1), (0, 0, 0)])

    def test_more_cases(self):
        lot = three(19)
        spans = chances(sample_net(), lot)
        self.assertEqual(spans, [(-2, 4)] * 3)
        starts, leaves = plain_settle(sample_net(), lot, 0, ())
        self.assertIsNone(starts)
        self.none(sample_net(), lot, leaves)

    def test_kept_rows(self):
        net = sample_net()
        # p is at 0: r and s at 3 to 5 each, which are too near one another.
        kept = (("p", 0, (0,)),)
        self.assertEqual(chances(net, three(8), kept=kept), [(0, 1), (0, 1), (-1, 2)])
        self.none(net, three(8), [(0, 0, -1), (0, 0, 0)], kept=kept)
        # Both are kept at 0 and 4: s has a case to each of them, but not both at once.
        kept = (("p", 0, (0,)), ("r", 0, (4,)))
        self.assertEqual(chances(net, three(8), kept=kept), [(0, 1), (0, 1), (-1, 1)])
        self.none(net, three(8), [(0, 0, -1)], kept=kept)

    def test_kept_rows_that_break_the_firm_wants(self):
        net = sample_net()
        self.none(net, three(8), [()], kept=(("p", 0, (9,)),))
        self.none(net, three(8)[:1], [()], kept=(("s", 0, (6,)),))
        self.none(net, three(8)[:1], [()], kept=(("s", 0, (-1,)),))
        self.none(net, sample_lot(), [()], slack=1, kept=(("y", 0, (2, 6)),))
        self.assertEqual(settle(net, three(8)[:1], kept=(("s", 0, (5,)),)), ([5], None))

    def test_both_lengths_are_more_than_the_common_part(self):
        net = sample_net()
        lot = [Frame("p", (SHORT,), every=8, long=3), Frame("r", (SHORT,), every=12, long=2)]
        self.assertEqual(settle(net, lot), (None, []))
        self.assertIs(holds(net, lot, []), True)

    def test_windows_that_leave_a_pair_no_chance(self):
        net = sample_net()
        lot = [Frame("p", (SHORT,), every=8, long=3, last=3), Frame("r", (SHORT,), every=8, long=3, last=3)]
        self.assertEqual(settle(net, lot), (None, []))
        # A pair without a chance behind others that have some.
        lot = [Frame("p", (SHORT,), every=8, long=3, last=8), Frame("r", (SHORT,), every=8, long=3, last=3),
               Frame("s", (SHORT,), every=8, long=3, last=3)]
        self.assertEqual(chances(net, lot), [(-1, 1), (-1, 1), (0, 0)])
        self.assertEqual(settle(net, lot), (None, []))
        self.assertEqual(settle(net, three(8), kept=(("p", 0, (0,)), ("s", 0, (2,)))), (None, []))

    def test_no_chance_beside_broken_firm_wants(self):
        kept = (("p", 0, (9,)), ("r", 0, (9,)))
        self.assertEqual(settle(sample_net(), three(8), kept=kept), (None, []))

    def test_held_against_plain_going_through(self):
        net = sample_net()
        chance = random.Random(11)
        seen = {True: 0, False: 0}
        for turn in range(250):
            rounds = chance.choice(((8,), (6, 12), (10, 20)))
            ways = ((UPPER,), (OTHER,), (LOWER,), (UPPER, LOWER), (SHORT,), (SHORT,))
            lot = []
            for name in "dbca"[:chance.randint(1, 4)]:
                picked = chance.choice(ways)
                every, long = chance.choice(rounds), chance.randint(1, 3)
                takes = max(sum(long + net.ends(line)[2] for line in way[1::2]) for way in picked)
                lot.append(Frame(name, picked, every=every, long=long, release=chance.randint(0, 3),
                                 last=takes + chance.randint(0, 7)))
            kept = ()
            if chance.random() < 0.4:
                spans = windows(net, lot)
                places = order(lot)
                name, at, h = places[0]
                kept = ((name, at, tuple(chance.randint(*spans[k]) for k, place in enumerate(places)
                                         if place[:2] == (name, at))),)
            if measure(chances(net, lot, kept=kept)) > 60:
                continue
            starts, leaves = settle(net, lot, kept=kept)
            wanted, taken = plain_settle(net, lot, 0, kept)
            self.assertEqual(starts, wanted)
            seen[starts is None] += 1
            if starts is None:
                self.check_leaves(net, lot, leaves, taken, kept=kept)
            else:
                self.assertIsNone(leaves)
                self.assertIs(holds(net, lot, [], kept=kept), False)
        self.assertGreater(min(seen.values()), 40)


class Measured(CasesTest):
    def test_just_at_most_and_just_above(self):
        net, lot = sample_net(), sample_lot()
        self.assertEqual(settle(net, lot, slack=1, most=13)[0], [13, 19, 4, 8, 0, 5])
        self.refused(Heavy, lambda: settle(net, lot, slack=1, most=12), cases=13)
        kept = (("y", 0, (0, 5)),)
        self.assertEqual(settle(net, lot, slack=1, kept=kept, most=7), ([13, 19, 4, 8, 0, 5], None))
        self.refused(Heavy, lambda: settle(net, lot, slack=1, kept=kept, most=6), cases=7)
        self.assertEqual(len(settle(net, three(8), most=15)[1]), 6)
        self.refused(Heavy, lambda: settle(net, three(8), most=14), cases=15)

    def test_nought_is_below_every_measure(self):
        net = sample_net()
        self.refused(Heavy, lambda: settle(net, [], most=0), cases=1)
        self.assertEqual(settle(net, [], most=1), ([], None))
        self.refused(Heavy, lambda: settle(net, three(8)[:1], most=0), cases=1)

    def test_just_at_the_default_and_just_above(self):
        net = sample_net()
        # Two frames in a round of 4 alone on a line: each moment more of a window may bring one case more.
        seen = set()
        for one in range(1, 481):
            lot = [Frame("p", (SHORT,), every=4, last=one), Frame("r", (SHORT,), every=4, last=480),
                   Frame("s", (SIDE,), every=120, last=120), Frame("t", (SIDE,), every=120, last=120)]
            whole = measure(chances(net, lot))
            if whole == HEAVY:
                self.assertIsNotNone(settle(net, lot)[0])
                self.assertIsNotNone(settle(net, lot, most=400)[0])
            if whole > HEAVY:
                self.refused(Heavy, lambda: settle(net, lot), cases=whole)
            seen.add(whole)
        self.assertIn(HEAVY, seen)
        self.assertIn(HEAVY + 3, seen)

    def test_far_too_heavy(self):
        net = sample_net()
        lot = [Frame("f" + letter, (SHORT,), every=8) for letter in "abcdefgh"]
        whole = measure(chances(net, lot))
        self.assertGreater(whole, 10 ** 40)
        self.refused(Heavy, lambda: settle(net, lot), cases=whole)

    def test_a_pair_without_a_chance_counts_as_one(self):
        lot = [Frame("p", (SHORT,), every=8, long=3), Frame("r", (SHORT,), every=12, long=2)]
        self.assertEqual(settle(sample_net(), lot, most=2), (None, []))
        self.refused(Heavy, lambda: settle(sample_net(), lot, most=1), cases=2)

    def test_broken_firm_wants_do_not_make_it_lighter(self):
        kept = (("p", 0, (9,)),)
        whole = measure(chances(sample_net(), three(8), kept=kept))
        self.assertEqual(settle(sample_net(), three(8), kept=kept, most=whole)[1][0][0], ())
        self.refused(Heavy, lambda: settle(sample_net(), three(8), kept=kept, most=whole - 1), cases=whole)

    def test_a_most_that_is_no_number_within_its_bounds(self):
        net = sample_net()
        for most in (-1, 401, 10 ** 30, -10 ** 30, True, False):
            self.refused(BadNumber, lambda: settle(net, [], most=most))
            self.refused(BadNumber, lambda: settle(net, three(8), most=most))
            self.refused(BadNumber, lambda: settle(net, [Frame("f" + letter, (SHORT,), every=8) for letter in "abcdefgh"],
                                                   most=most))

    def test_both_go_behind_the_refusals_of_the_lot(self):
        net = sample_net()
        late = Frame("w", (SHORT,), every=8, long=3, last=2)
        for most in (0, -1, 401, True):
            self.refused(Late, lambda: settle(net, [late], most=most), name="w", least=3)
            self.refused(Taken, lambda: settle(net, three(8) + three(8), most=most), name="p")
        self.refused(BadNumber, lambda: settle(net, three(8), slack=31, most=0))


class Holds(CasesTest):
    def setUp(self):
        self.net = sample_net()
        self.lot = three(8)
        self.leaves = settle(self.net, self.lot)[1]
        self.rings = dict(self.leaves)

    def holds(self, leaves, **more):
        before = [(leaf[0], list(leaf[1])) for leaf in leaves]
        told = holds(self.net, self.lot, leaves, **more)
        self.assertIsInstance(told, bool)
        self.assertEqual(leaves, before)
        return told

    def without(self, *taken):
        return [leaf for leaf in self.leaves if leaf[0] not in taken]

    def test_right_leaves(self):
        self.assertTrue(self.holds(self.leaves))
        self.assertTrue(holds(kept=(), slack=0, leaves=self.leaves, frames=self.lot[::-1], net=self.net))

    def test_rings_written_by_hand(self):
        # The windows are 0 to 5; case -1 of (1, 2): (1, 2, -5) and (2, 1, 3), case 0: (1, 2, 3) and (2, 1, -5).
        self.assertTrue(self.holds([
            ((-1, -1, -1), [(3, 2, 3), (2, 1, 3), (1, 3, -5)]), ((-1, -1, 0), [(2, 3, 3), (3, 1, 3), (1, 2, -5)]),
            ((-1, 0), [(0, 2, 0), (2, 1, 3), (1, 3, 3), (3, 0, -5)]),
            ((0, -1), [(0, 3, 0), (3, 1, 3), (1, 2, 3), (2, 0, -5)]),
            ((0, 0, -1), [(1, 3, 3), (3, 2, 3), (2, 1, -5)]), ((0, 0, 0), [(1, 2, 3), (2, 3, 3), (3, 1, -5)])]))

    def test_in_another_order(self):
        self.assertTrue(self.holds(self.leaves[::-1]))
        for taken in self.rings:
            self.assertTrue(self.holds(self.without(taken) + [(taken, self.rings[taken])]))

    def test_rings_begun_elsewhere_or_gone_twice(self):
        turned = [(taken, row[1:] + row[:1]) for taken, row in self.leaves]
        self.assertTrue(self.holds(turned))
        self.assertTrue(self.holds([(taken, row + row) for taken, row in self.leaves]))

    def test_leaves_that_go_deeper_than_need_be(self):
        row = self.rings[(-1, 0)]
        self.assertTrue(self.holds(self.without((-1, 0)) + [((-1, 0, -1), row), ((-1, 0, 0), row)]))

    def test_a_leaf_too_few(self):
        self.assertFalse(self.holds([]))
        for taken in self.rings:
            self.assertFalse(self.holds(self.without(taken)))
        self.assertFalse(self.holds(self.leaves[:1]))
        row = self.rings[(-1, 0)]
        self.assertFalse(self.holds(self.without((-1, 0)) + [((-1, 0, -1), row)]))
        self.assertFalse(self.holds(self.without((-1, 0)) + [((-1, 0, 0), row)]))

    def test_a_leaf_twice(self):
        for leaf in self.leaves:
            self.assertFalse(self.holds(self.leaves + [leaf]))
            self.assertFalse(self.holds([leaf] + self.leaves))
        # One too few and one twice are as many as there should be.
        self.assertFalse(self.holds(self.leaves[1:] + self.leaves[-1:]))
        self.assertFalse(self.holds(self.leaves[:-1] + self.leaves[:1]))

    def test_a_leaf_that_begins_with_another(self):
        for taken in ((-1, 0), (0, -1)):
            for case in (-1, 0):
                more = (taken + (case,), self.rings[taken])
                self.assertFalse(self.holds(self.leaves + [more]))
                self.assertFalse(self.holds([more] + self.leaves))
        # One that is the beginning of another, and one too few elsewhere.
        more = ((-1, 0, 0), self.rings[(-1, 0)])
        self.assertFalse(self.holds(self.without((0, 0, 0)) + [more]))

    def test_cases_that_are_none_of_the_chances(self):
        # Case 1 of (1, 2): (1, 2, 11) and (2, 1, -13); case -2: (1, 2, -13) and (2, 1, 11).
        self.assertFalse(self.holds(self.leaves + [((1,), [(0, 1, 0), (1, 2, 11), (2, 0, -5)])]))
        self.assertFalse(self.holds(self.leaves + [((-2,), [(0, 2, 0), (2, 1, 11), (1, 0, -5)])]))
        self.assertFalse(self.holds(self.leaves + [((0, 1), [(0, 1, 0), (1, 3, 11), (3, 0, -5)])]))
        row = self.rings[(-1, 0)]
        self.assertFalse(self.holds(self.without((-1, 0)) + [((-1, 0, -1), row), ((-1, 0, 1), row)]))
        self.assertFalse(self.holds(self.without((-1, 0)) + [((-1, 0, 0), row), ((-1, 0, -2), row)]))

    def test_more_cases_than_pairs(self):
        for taken in ((-1, -1, -1), (0, 0, 0)):
            for case in (-1, 0, 1):
                self.assertFalse(self.holds(self.without(taken) + [(taken + (case,), self.rings[taken])]))
        both = [((0, 0, 0, -1), self.rings[(0, 0, 0)]), ((0, 0, 0, 0), self.rings[(0, 0, 0)])]
        self.assertFalse(self.holds(self.without((0, 0, 0)) + both))

    def bend(self, taken, row):
        """The right leaves with another row of wants at one leaf."""
        return [(leaf[0], row if leaf[0] == taken else leaf[1]) for leaf in self.leaves]

    def test_rows_that_are_no_ring(self):
        for taken, row in self.leaves:
            self.assertFalse(self.holds(self.bend(taken, [])))
            self.assertFalse(self.holds(self.bend(taken, row[:-1])))
            self.assertFalse(self.holds(self.bend(taken, row[1:])))
            if len(row) > 2:
                self.assertFalse(self.holds(self.bend(taken, [row[1], row[0]] + row[2:])))
            self.assertFalse(self.holds(self.bend(taken, row[::-1])))
            self.assertFalse(self.holds(self.bend(taken, row + [row[0]])))

    def test_rows_that_sum_to_nought_or_below(self):
        # (0, 1, 0) and (1, 0, -5) are firm; case 0 of (1, 2) has (1, 2, 3) and (2, 1, -5), which sum to -2.
        self.assertFalse(self.holds(self.bend((0, 0, 0), [(0, 1, 0), (1, 0, -5)])))
        self.assertFalse(self.holds(self.bend((0, 0, 0), [(1, 2, 3), (2, 1, -5)])))
        # Both lengths just fill the round: each case's own two wants sum to nought.
        self.lot = [Frame(name, (SHORT,), every=8, long=4, last=10) for name in "prs"]
        self.leaves = settle(self.net, self.lot)[1]
        self.assertTrue(self.holds(self.leaves))
        self.assertEqual(self.leaves[0][0][0], -1)
        self.assertFalse(self.holds(self.bend(self.leaves[0][0], [(1, 2, -4), (2, 1, 4)])))

    def test_wants_that_are_neither_firm_nor_of_the_cases(self):
        # Of no case at all, though it closes; weaker and stronger than a firm one; of another case; of a later pair.
        self.assertFalse(self.holds(self.bend((0, 0, 0), [(1, 1, 1)])))
        self.assertFalse(self.holds(self.bend((0, 0, 0), [(0, 1, 6), (1, 0, -5)])))
        self.assertFalse(self.holds(self.bend((0, 0, 0), [(1, 2, 3), (2, 3, 3), (3, 1, -4)])))
        self.assertFalse(self.holds(self.bend((-1, 0), [(0, 2, -1), (2, 1, 3), (1, 3, 4), (3, 0, -5)])))
        self.assertFalse(self.holds(self.bend((-1, 0), [(0, 2, 0), (2, 1, 3), (1, 3, 3), (3, 0, -4)])))
        self.assertFalse(self.holds(self.bend((0, 0, 0), self.rings[(-1, -1, -1)])))
        self.assertFalse(self.holds(self.bend((-1, -1, -1), self.rings[(0, 0, 0)])))

    def test_wants_of_pairs_that_have_no_case_yet(self):
        # Instead of both leaves below (-1, -1) one at (-1, -1), whose ring takes the third pair's want.
        rest = self.without((-1, -1, -1), (-1, -1, 0))
        self.assertFalse(self.holds(rest + [((-1, -1), [(3, 2, 3), (2, 1, 3), (1, 3, -5)])]))
        self.assertFalse(self.holds(rest + [((-1, -1), [(2, 3, 3), (3, 1, 3), (1, 2, -5)])]))
        self.assertFalse(self.holds([((), self.rings[(0, 0, 0)])]))

    def test_another_lot_or_slack(self):
        self.assertTrue(self.holds(self.leaves))
        self.lot = three(10)
        self.assertFalse(self.holds(self.leaves))
        self.lot = three(8)
        self.assertFalse(self.holds(self.leaves, slack=1))
        self.lot = three(8)[:2]
        self.assertFalse(self.holds(self.leaves))

    def test_with_a_slack(self):
        self.lot = [Frame(name, (SHORT,), every=12, long=2, last=12) for name in "prs"]
        self.assertIsNotNone(settle(self.net, self.lot, slack=1)[0])
        self.leaves = settle(self.net, self.lot, slack=3)[1]
        self.assertTrue(self.holds(self.leaves, slack=3))
        self.assertFalse(self.holds(self.leaves, slack=1))
        self.assertFalse(self.holds(self.leaves))

    def test_kept_rows(self):
        kept = (("p", 0, (0,)),)
        leaves = settle(self.net, self.lot, kept=kept)[1]
        self.assertEqual([leaf[0] for leaf in leaves], [(0, 0, -1), (0, 0, 0)])
        self.assertTrue(self.holds(leaves, kept=kept))
        self.assertFalse(self.holds(leaves))
        self.assertFalse(self.holds(self.leaves, kept=kept))
        self.assertFalse(self.holds(leaves[:1], kept=kept))
        row = [(0, 1, 9), (1, 0, -5)]
        self.assertTrue(self.holds([((), row)], kept=(("p", 0, (9,)),)))
        self.assertFalse(self.holds([((), row)], kept=(("p", 0, (8,)),)))
        self.assertFalse(self.holds([((), row)]))

    def test_lots_that_have_starts(self):
        self.lot = sample_lot()
        self.assertFalse(self.holds([], slack=1))
        self.assertFalse(self.holds([((), [])], slack=1))
        self.assertFalse(self.holds([((), [(1, 1, 1)])], slack=1))
        self.lot = []
        self.assertFalse(self.holds([]))
        self.assertFalse(self.holds([((), [])]))

    def test_a_pair_without_a_chance(self):
        self.lot = [Frame("p", (SHORT,), every=8, long=3, last=8), Frame("r", (SHORT,), every=8, long=3, last=3),
                    Frame("s", (SHORT,), every=8, long=3, last=3)]
        self.assertEqual(chances(self.net, self.lot), [(-1, 1), (-1, 1), (0, 0)])
        self.assertTrue(self.holds([]))
        self.assertFalse(self.holds([((), [])]))
        # The third pair has no chance, but a ring of the first ones' alone is none the less no leaf here.
        kept = (("p", 0, (9,)), ("r", 0, (0,)), ("s", 0, (0,)))
        self.assertTrue(self.holds([], kept=kept))
        self.assertIn((0, 1, 9), firm(self.net, self.lot, kept=kept))
        self.assertFalse(self.holds([((), [(0, 1, 9), (1, 0, -5)])], kept=kept))

    def test_it_asks_no_measure(self):
        far = [Frame("t" + letter, (SIDE,), every=8) for letter in "abcde"]
        self.lot = far + self.lot
        self.assertGreater(measure(chances(self.net, self.lot)), 10 ** 15)
        # The three have no room among themselves, and their pairs are the first ones.
        self.assertTrue(self.holds(self.leaves))
        for taken in self.rings:
            self.assertFalse(self.holds(self.without(taken)))
        self.assertFalse(self.holds([]))

    def test_it_asks_no_measure_where_the_firm_wants_have_a_ring(self):
        self.lot = [Frame("f" + letter, (SHORT,), every=8) for letter in "abcdefgh"]
        kept = (("fa", 0, (480,)),)
        row = [(0, 1, 480), (1, 0, -479)]
        self.assertGreater(measure(chances(self.net, self.lot, kept=kept)), 10 ** 40)
        self.assertTrue(self.holds([((), row)], kept=kept))
        self.assertFalse(self.holds([((), row), ((0,), row)], kept=kept))
        self.assertFalse(self.holds([((0,), row)], kept=kept))


if __name__ == "__main__":
    unittest.main()
