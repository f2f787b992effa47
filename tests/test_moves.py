"""Points 6, 10 and 15 where they speak of one more frame, and the interface of slotwright/moves.py."""

import itertools
import random
import unittest

from samples import LOWER, OTHER, UPPER, bad_lots, parameters, refused, sample_lot, sample_net, short
from slotwright.cases import settle
from slotwright.errors import BadNumber, Full, Heavy, Late, NetError, Taken, Tight
from slotwright.frames import Frame
from slotwright.lots import plan
from slotwright.moves import fewest, squeeze
from slotwright.spans import HEAVY, apart
from slotwright.tables import Table, faults, table_of
from slotwright.wants import chances, measure, order, windows

TABLE = Table([("x", 0, (13, 19)), ("x", 1, (4, 8)), ("y", 0, (0, 5))])


def plain_squeeze(net, frames, table, frame, slack):
    """What squeeze has to tell, moment by moment."""
    lot = {row.name: row for row in frames}
    spans = dict(zip(order([frame]), windows(net, [frame], slack=slack)))
    rows, found = [], []
    for at, way in enumerate(frame.ways):
        starts = []
        for h, line in enumerate(way[1::2]):
            moment = frame.release
            if h > 0:
                moment = starts[-1] + frame.long + net.ends(way[2 * h - 1])[2] + slack
            while True:
                if moment > spans[(frame.name, at, h)][1]:
                    return None, rows
                met = [place for place in order(frames) if lot[place[0]].ways[place[1]][2 * place[2] + 1] == line
                       and not apart((table.of(place[0], place[1])[place[2]], lot[place[0]].every, lot[place[0]].long),
                                     (moment, frame.every, frame.long), slack=slack)]
                if not met:
                    break
                rows.append((at, h, moment) + met[0])
                moment += 1
            starts.append(moment)
        found.append((frame.name, at, tuple(starts)))
    return Table(table.told() + found), rows


def plain_fewest(net, frames, table, frame, slack):
    """What fewest has to tell: all sets of names by size and then by their lists."""
    lot = frames + [frame]
    names = sorted(row.name for row in frames)
    sets = [list(chosen) for size in range(len(names) + 1) for chosen in itertools.combinations(names, size)]
    for chosen in sorted(sets, key=lambda row: (len(row), row)):
        kept = tuple(row for row in table.told() if row[0] not in chosen)
        starts = settle(net, lot, slack=slack, kept=kept)[0]
        if starts is not None:
            return chosen, table_of(lot, starts)
    return None


def random_case(chance):
    """A net's lot on several lines, and one more frame."""
    ways = ((UPPER,), (LOWER,), (OTHER,), (UPPER, LOWER), (("c", "q", "b"),))
    rows = []
    for name in chance.sample("abcdefgh", chance.randint(2, 4)):
        way = chance.choice(ways)
        rows.append(Frame(name, way, every=chance.choice((12, 15, 20, 24, 30)), long=chance.randint(1, 4),
                          release=chance.randint(0, 5), last=chance.randint(14, 24)))
    return rows[:-1], rows[-1], chance.randint(0, 2)


class Interface(unittest.TestCase):
    def test_arguments_and_defaults(self):
        self.assertEqual(parameters(squeeze), "(net, frames, table, frame, *, slack=0)")
        self.assertEqual(parameters(fewest), "(net, frames, table, frame, *, slack=0, most=400)")

    def test_by_names(self):
        frame = short("z")
        found, rows = squeeze(slack=1, frame=frame, table=TABLE, frames=sample_lot(), net=sample_net())
        self.assertEqual(found.of("z"), (0,))
        names, table = fewest(most=HEAVY, slack=1, frame=frame, table=TABLE, frames=sample_lot(), net=sample_net())
        self.assertEqual((names, table.of("z")), ([], (0,)))


class Refusals(unittest.TestCase):
    def each(self):
        """Each bad lot parted into frames and the one more, by each place of the one more."""
        for frames, slack, error, fields in bad_lots():
            for at in range(len(frames)):
                yield frames[:at] + frames[at + 1:], frames[at], slack, error, fields

    def test_the_lot_with_the_one_more(self):
        # The table is not that lot's, too.
        for frames, frame, slack, error, fields in self.each():
            for table in (Table(), TABLE):
                net, before = sample_net(), list(frames)
                refused(self, error, lambda: squeeze(net, frames, table, frame, slack=slack), **fields)
                refused(self, error, lambda: fewest(net, frames, table, frame, slack=slack), **fields)
                self.assertEqual((net, frames), (sample_net(), before))

    def test_a_slack_that_is_none(self):
        for slack in (-1, 31, True, False):
            refused(self, BadNumber, lambda: squeeze(sample_net(), [], Table(), short("z"), slack=slack))
            refused(self, BadNumber, lambda: fewest(sample_net(), [], Table(), short("z"), slack=slack))

    def test_a_name_that_is_there(self):
        for deed in (squeeze, fewest):
            refused(self, Taken, lambda: deed(sample_net(), sample_lot(), TABLE, short("x"), slack=1), name="x")
            refused(self, Taken, lambda: deed(sample_net(), sample_lot(), TABLE, sample_lot()[0], slack=1), name="y")

    def test_a_ninth_one(self):
        lot = [short(name, 120, 1, last=480) for name in "abcdefgh"]
        table = Table([(frame.name, 0, (at,)) for at, frame in enumerate(lot)])
        self.assertEqual(faults(sample_net(), lot, table), [])
        for deed in (squeeze, fewest):
            refused(self, Full, lambda: deed(sample_net(), lot, table, short("i")))
            # More than eight goes ahead of a name that is there.
            refused(self, Full, lambda: deed(sample_net(), lot, table, short("a")))
        self.assertEqual(squeeze(sample_net(), lot[1:], Table(table.told()[1:]), short("a", 120, 2, last=10))[0].of("a"),
                         (8,))

    def test_the_one_more_is_refused(self):
        for deed in (squeeze, fewest):
            refused(self, Tight, lambda: deed(sample_net(), sample_lot(), TABLE, short("z"), slack=6), name="z")
            refused(self, Late, lambda: deed(sample_net(), sample_lot(), TABLE, short("z", last=3), slack=1),
                    name="z", least=4)

    def test_lots_go_ahead_of_most(self):
        for most in (-1, 401, True, False, 0):
            for frames, frame, slack, error, fields in self.each():
                refused(self, error, lambda: fewest(sample_net(), frames, Table(), frame, slack=slack, most=most), **fields)

    def test_most_is_no_number_of_its_bounds(self):
        heavy = [short("p", last=480)]
        table = Table([("p", 0, (0,))])
        for most in (-1, 401, True, False, 10 ** 30):
            refused(self, BadNumber, lambda: fewest(sample_net(), heavy, table, short("r", last=480), most=most))
            refused(self, BadNumber, lambda: fewest(sample_net(), [], Table(), short("r"), most=most))

    def test_most_at_the_measure_and_beside_it(self):
        net, frames, frame = sample_net(), [short("p"), short("r", 24)], short("z", 24, 1)
        table = plan(net, frames)
        steps = measure(chances(net, frames + [frame]))
        # With all kept the measure would be far less: it is that of all frames with nothing kept that counts.
        self.assertLess(measure(chances(net, frames + [frame], kept=tuple(table.told()))), steps)
        refused(self, Heavy, lambda: fewest(net, frames, table, frame, most=steps - 1), cases=steps)
        refused(self, Heavy, lambda: fewest(net, frames, table, frame, most=0), cases=steps)
        told = fewest(net, frames, table, frame)
        self.assertEqual(fewest(net, frames, table, frame, most=steps), told)
        self.assertEqual(fewest(net, frames, table, frame, most=steps + 1), told)

    def test_squeeze_asks_no_measure(self):
        net = sample_net()
        lot = [short("p", 4, 1, last=480), short("r", 4, 1, last=480)]
        table, one_more = Table([("p", 0, (0,)), ("r", 0, (1,))]), short("s", 4, 1, last=480)
        steps = measure(chances(net, lot + [one_more]))
        self.assertGreater(steps, HEAVY)
        self.assertEqual(squeeze(net, lot, table, one_more)[0].of("s"), (2,))
        refused(self, Heavy, lambda: fewest(net, lot, table, one_more), cases=steps)


class Squeezed(unittest.TestCase):
    def squeeze(self, frames, table, frame, slack=0, net=None):
        net = sample_net() if net is None else net
        before, net_before, rows_before = list(frames), net.twin(), table.told()
        told = squeeze(net, frames, table, frame, slack=slack)
        self.assertEqual((frames, net, table.told()), (before, net_before, rows_before))
        self.assertIsInstance(told, tuple)
        self.assertIsInstance(told[1], list)
        self.assertEqual(told, squeeze(net, frames[::-1], table, frame, slack=slack))
        self.assertEqual(told, plain_squeeze(net, frames, table, frame, slack))
        if told[0] is not None:
            self.assertIsInstance(told[0], Table)
            self.assertEqual(faults(net, frames + [frame], told[0], slack=slack), [])
            self.assertEqual([row for row in told[0].told() if row[0] != frame.name], rows_before)
        return told

    def test_into_nothing(self):
        found, rows = self.squeeze([], Table(), sample_lot()[1], 1)
        self.assertEqual((found.told(), rows), ([("x", 0, (4, 10)), ("x", 1, (4, 8))], []))

    def test_each_moment_passed_over(self):
        lot = [short("r"), short("p", 12, 1)]
        table = Table([("p", 0, (4,)), ("r", 0, (5,))])
        self.assertEqual(faults(sample_net(), lot, table), [])
        found, rows = self.squeeze(lot, table, short("s", 24, 2, release=2, last=30))
        self.assertEqual((found.of("s"), rows), ((2,), []))
        # By p (part 12) the moments 3 and 4 are not free, by r (part 8) 4 to 7 are not; p is told first.
        found, rows = self.squeeze(lot, table, short("s", 24, 2, release=3, last=30))
        self.assertEqual(rows, [(0, 0, 3, "p", 0, 0), (0, 0, 4, "p", 0, 0), (0, 0, 5, "r", 0, 0), (0, 0, 6, "r", 0, 0),
                                (0, 0, 7, "r", 0, 0)])
        self.assertEqual(found.told(), table.told() + [("s", 0, (8,))])

    def test_no_room_tells_the_rows_up_to_there(self):
        lot, table = [short("p"), short("r")], Table([("p", 0, (0,)), ("r", 0, (3,))])
        found, rows = self.squeeze(lot, table, short("s", release=1, last=9))
        # Its window is 1 to 7, and two free moments of eight are one too few.
        self.assertIsNone(found)
        self.assertEqual(rows, [(0, 0, 1, "p", 0, 0), (0, 0, 2, "p", 0, 0), (0, 0, 3, "r", 0, 0), (0, 0, 4, "r", 0, 0),
                                (0, 0, 5, "r", 0, 0), (0, 0, 6, "p", 0, 0), (0, 0, 7, "p", 0, 0)])

    def test_the_last_moment_of_the_window(self):
        lot, table = [short("p", last=8)], Table([("p", 0, (0,))])
        for last, wanted in ((6, (3,)), (5, None), (3, None)):
            found, rows = self.squeeze(lot, table, short("s", last=last))
            self.assertEqual(None if found is None else found.of("s"), wanted)
            self.assertEqual(len(rows), min(3, last - 2))

    def test_from_line_to_line(self):
        frame = Frame("z", (OTHER,), every=60, long=1, release=13, last=40)
        found, rows = self.squeeze(sample_lot(), TABLE, frame, 1)
        # x lies on k about 13 by 20, y about 0 by 30; on m x about 19 and y about 5.
        self.assertEqual(rows[0], (0, 0, 13, "x", 0, 0))
        self.assertEqual(found.of("z"), (17, 23))
        self.assertEqual(rows, [(0, 0, moment, "x", 0, 0) for moment in range(13, 17)]
                         + [(0, 1, moment, "x", 0, 1) for moment in (21, 22)])

    def test_no_room_at_the_second_line(self):
        frame = Frame("z", (OTHER,), every=60, long=1, release=13, last=14)
        found, rows = self.squeeze(sample_lot(), TABLE, frame, 1)
        self.assertIsNone(found)
        self.assertEqual(rows, [(0, 0, moment, "x", 0, 0) for moment in range(13, 17)] + [(0, 1, 21, "x", 0, 1),
                                                                                         (0, 1, 22, "x", 0, 1)])

    def test_both_ways(self):
        frame = Frame("z", (UPPER, LOWER), every=60, long=1, release=3, last=40)
        found, rows = self.squeeze(sample_lot(), TABLE, frame, 1)
        self.assertEqual(found.told()[:3], TABLE.told())
        self.assertEqual([row[0] for row in rows], sorted(row[0] for row in rows))
        self.assertEqual({row[:2] for row in rows if row[3:] == ("x", 1, 0)}, {(1, 0)})
        self.assertEqual(found.of("z", 0), (3, 8))
        self.assertEqual(found.of("z", 1), (8, 12))
        self.assertEqual(rows, [(0, 1, 7, "y", 0, 1)] + [(1, 0, moment, "x", 1, 0) for moment in range(3, 8)]
                         + [(1, 1, moment, "x", 1, 1) for moment in (10, 11)])

    def test_no_room_by_the_second_way(self):
        frame = Frame("z", (UPPER, LOWER), every=60, long=1, release=3, last=11)
        found, rows = self.squeeze(sample_lot(), TABLE, frame, 1)
        self.assertIsNone(found)
        # On o its window ends at 3 + 11 - 3.
        self.assertEqual(rows, [(0, 1, 7, "y", 0, 1)] + [(1, 0, moment, "x", 1, 0) for moment in range(3, 8)]
                         + [(1, 1, moment, "x", 1, 1) for moment in (10, 11)])

    def test_a_table_that_is_right_but_not_planned(self):
        table = Table([("x", 0, (13, 20)), ("x", 1, (9, 14)), ("y", 0, (0, 6))])
        self.assertEqual(faults(sample_net(), sample_lot(), table, slack=1), [])
        found, rows = self.squeeze(sample_lot(), table, short("z"), 1)
        self.assertEqual(found.told(), table.told() + [("z", 0, (0,))])

    def test_held_against_a_plain_reckoning(self):
        chance, found = random.Random(5), [0, 0]
        for turn in range(300):
            frames, frame, slack = random_case(chance)
            try:
                table = plan(sample_net(), frames, slack=slack)
                if table is not None:
                    told = self.squeeze(frames, table, frame, slack)
                    found[told[0] is None] += 1
            except NetError:
                continue
        self.assertGreater(min(found), 20)

    def test_made_afresh(self):
        lot, table = [short("p")], Table([("p", 0, (0,))])
        squeeze(sample_net(), lot, table, short("s"))[1].clear()
        found, rows = squeeze(sample_net(), lot, table, short("s"))
        self.assertEqual(len(rows), 3)
        lot.clear()
        self.assertEqual(found.told(), [("p", 0, (0,)), ("s", 0, (3,))])


class Fewest(unittest.TestCase):
    def fewest(self, frames, table, frame, slack=0):
        net = sample_net()
        before, rows_before = list(frames), table.told()
        self.assertEqual(faults(net, frames, table, slack=slack), [])
        told = fewest(net, frames, table, frame, slack=slack)
        self.assertEqual((frames, net, table.told()), (before, sample_net(), rows_before))
        self.assertEqual(told, fewest(net, frames[::-1], table, frame, slack=slack))
        self.assertEqual(told, plain_fewest(net, frames, table, frame, slack))
        if told is not None:
            names, found = told
            self.assertIsInstance(told, tuple)
            self.assertIsInstance(names, list)
            self.assertIsInstance(found, Table)
            self.assertEqual(faults(net, frames + [frame], found, slack=slack), [])
            self.assertEqual([row for row in found.told() if row[0] not in names + [frame.name]],
                             [row for row in rows_before if row[0] not in names])
        return told

    def test_into_nothing(self):
        names, found = self.fewest([], Table(), sample_lot()[1], 1)
        self.assertEqual((names, found.told()), ([], [("x", 0, (4, 10)), ("x", 1, (4, 8))]))

    def test_none_moves(self):
        names, found = self.fewest([short("p"), short("r")], Table([("p", 0, (1,)), ("r", 0, (4,))]), short("z", 8, 1))
        # Between 7 and 9 there is room for a length of 2; its first case is the one at 0.
        self.assertEqual((names, found.of("z")), ([], (0,)))
        names, found = self.fewest([short("p"), short("r")], Table([("p", 0, (0,)), ("r", 0, (4,))]), short("z", 8, 1))
        self.assertEqual((names, found.of("z")), ([], (3,)))

    def test_one_moves(self):
        lot, table = [short("p", long=2), short("r", long=2)], Table([("p", 0, (0,)), ("r", 0, (4,))])
        names, found = self.fewest(lot, table, short("z", long=4))
        # Either would do: p is the first in the order of names.
        self.assertEqual(names, ["p"])
        # r is kept at 4; the first cases are p at least 2 behind it and z at least 4 ahead of both.
        self.assertEqual(found.told(), [("p", 0, (6,)), ("r", 0, (4,)), ("z", 0, (0,))])

    def test_one_of_a_later_name_moves(self):
        # p cannot move out of the moment 0.
        lot = [short("p", long=2, last=2), short("r", long=2)]
        names, found = self.fewest(lot, Table([("p", 0, (0,)), ("r", 0, (4,))]), short("z", long=4))
        self.assertEqual((names, found.of("p")), (["r"], (0,)))

    def test_several_move(self):
        # u needs the moments 0 to 2 of each 12; p and r stand there, and s is in nobody's way.
        lot = [short("p", 12, 1, last=12), short("r", 12, 1, last=12), short("s", 12, 1, last=12)]
        table = Table([("p", 0, (0,)), ("r", 0, (2,)), ("s", 0, (5,))])
        names, found = self.fewest(lot, table, short("u", 12, 3, last=3))
        self.assertEqual(names, ["p", "r"])
        self.assertEqual((found.of("u"), found.of("s")), ((0,), (5,)))
        lot = [short("p", 12, 1, last=12), short("s", 12, 1, last=12), short("r", 12, 1, last=12)]
        table = Table([("p", 0, (5,)), ("r", 0, (2,)), ("s", 0, (0,))])
        self.assertEqual(self.fewest(lot, table, short("u", 12, 3, last=3))[0], ["r", "s"])

    def test_all_move(self):
        lot = [short("p", 12, 1, last=12), short("r", 12, 1, last=12)]
        names, found = self.fewest(lot, Table([("p", 0, (0,)), ("r", 0, (2,))]), short("a", 12, 3, last=3))
        self.assertEqual(names, ["p", "r"])
        self.assertEqual(found, plan(sample_net(), lot + [short("a", 12, 3, last=3)]))

    def test_size_goes_ahead_of_the_order_of_names(self):
        # To make room for z either p and r move or s alone.
        lot = [short("p", 12, 1, last=12), short("r", 12, 1, last=12), short("s", 12, 4, last=12)]
        table = Table([("p", 0, (0,)), ("r", 0, (1,)), ("s", 0, (5,))])
        names, found = self.fewest(lot, table, short("z", 12, 6, last=12))
        self.assertEqual(names, ["s"])

    def test_none_at_all(self):
        lot = [short("p"), short("r")]
        self.assertIsNone(self.fewest(lot, Table([("p", 0, (0,)), ("r", 0, (3,))]), short("z")))
        self.assertIsNone(self.fewest([short("p", long=5)], Table([("p", 0, (0,))]), short("z", long=4)))

    def test_held_against_all_sets(self):
        chance, found = random.Random(11), {}
        for turn in range(400):
            frames, frame, slack = random_case(chance)
            try:
                table = plan(sample_net(), frames, slack=slack)
                if table is None:
                    continue
                told = self.fewest(frames, table, frame, slack)
            except NetError:
                continue
            many = None if told is None else len(told[0])
            found[many] = found.get(many, 0) + 1
        self.assertGreater(found[0], 20)
        self.assertGreater(found[1], 3)
        self.assertGreater(found[None], 3)

    def test_made_afresh(self):
        lot, table = [short("p", long=2), short("r", long=2)], Table([("p", 0, (0,)), ("r", 0, (4,))])
        names, found = fewest(sample_net(), lot, table, short("z", long=4))
        names.append("w")
        lot.clear()
        self.assertEqual(len(found), 3)
        lot = [short("p", long=2), short("r", long=2)]
        self.assertEqual(fewest(sample_net(), lot, table, short("z", long=4))[0], ["p"])


if __name__ == "__main__":
    unittest.main()
