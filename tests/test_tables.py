"""Points 13 and 14, points 1 and 2 where they speak of tables, and the interface of slotwright/tables.py."""

import itertools
import random
import unittest

from samples import LONG, SHORT, sample_lot, sample_net
from slotwright.cases import settle
from slotwright.errors import NoName
from slotwright.frames import Frame
from slotwright.net import Net
from slotwright.spans import apart, meet
from slotwright.tables import Table, faults, table_of, turns, worst
from slotwright.wants import pairs

ROWS = (("x", 0, (13, 19)), ("x", 1, (4, 8)), ("y", 0, (0, 5)))


def with_row(name, way, starts):
    """The right table with another row for that way."""
    rows = [row for row in ROWS if row[:2] != (name, way)]
    return Table(rows + [(name, way, starts)])


class Tables(unittest.TestCase):
    def test_an_empty_table(self):
        for table in (Table(), Table([]), Table(()), Table(rows=[])):
            self.assertEqual(table.told(), [])
            self.assertEqual(len(table), 0)
            self.assertTrue(table == Table())
            with self.assertRaises(NoName):
                table.of("x")

    def test_rows_in_another_order(self):
        for rows in itertools.permutations(ROWS):
            for table in (Table(rows), Table(list(rows))):
                self.assertEqual(table.told(), list(ROWS))
                self.assertEqual(len(table), 3)
                self.assertTrue(table == Table(ROWS))
                self.assertFalse(table != Table(ROWS))

    def test_names_go_by_their_order_and_not_by_their_length(self):
        rows = [("b", 0, (1,)), ("ab", 1, (2,)), ("ab", 0, (9, 9)), ("aab", 0, (5,)), ("ba", 0, (0,))]
        self.assertEqual([row[:2] for row in Table(rows).told()],
                         [("aab", 0), ("ab", 0), ("ab", 1), ("b", 0), ("ba", 0)])

    def test_the_starts_of_a_row(self):
        table = Table(ROWS)
        self.assertEqual(table.of("x"), (13, 19))
        self.assertEqual(table.of("x", 0), (13, 19))
        self.assertEqual(table.of("x", 1), (4, 8))
        self.assertEqual(table.of("y", way=0), (0, 5))
        self.assertEqual(table.of(way=1, name="x"), (4, 8))

    def test_rows_that_are_not_there(self):
        table = Table(ROWS)
        for name, way in (("y", 1), ("z", 0), ("z", 1), ("", 0), ("X", 0), ("x y", 1)):
            with self.assertRaises(NoName) as caught:
                table.of(name, way)
            self.assertEqual(caught.exception.name, name)
        with self.assertRaises(NoName):
            Table([("x", 1, (3,))]).of("x")
        self.assertEqual(Table([("x", 1, (3,))]).of("x", 1), (3,))
        self.assertEqual(table, Table(ROWS))

    def test_changed_behind_the_call(self):
        rows = list(ROWS)
        table = Table(rows)
        rows.clear()
        self.assertEqual(table.told(), list(ROWS))
        rows.append(("z", 0, (1,)))
        self.assertEqual(len(table), 3)
        self.assertEqual(table.of("x", 1), (4, 8))

    def test_the_list_handed_in_stays_in_its_order(self):
        rows = [ROWS[2], ROWS[0], ROWS[1]]
        Table(rows)
        self.assertEqual(rows, [ROWS[2], ROWS[0], ROWS[1]])

    def test_what_is_told_may_be_changed(self):
        table = Table(ROWS)
        told = table.told()
        told.append(("z", 0, (1,)))
        told[0] = ("w", 0, (2,))
        self.assertEqual(table.told(), list(ROWS))
        self.assertEqual(len(table), 3)
        self.assertEqual(table.of("x"), (13, 19))

    def test_unlike_tables(self):
        table = Table(ROWS)
        for other in (Table(), Table(ROWS[:2]), Table(ROWS + (("z", 0, (1,)),)), with_row("y", 0, (0, 6)),
                      with_row("x", 1, (8, 4)), Table(ROWS[:2] + (("z", 0, (0, 5)),)),
                      Table([ROWS[0], ("x", 1, (13, 19)), ROWS[2]]), Table(ROWS[:2] + (("y", 1, (0, 5)),))):
            self.assertFalse(table == other)
            self.assertFalse(other == table)
            self.assertTrue(table != other)

    def test_a_table_equals_nothing_else(self):
        for other in (list(ROWS), ROWS, None, 0, "", {}, Net()):
            self.assertFalse(Table(ROWS) == other)
            self.assertFalse(other == Table(ROWS))
        for other in ([], (), None, 0, "", {}, Net()):
            self.assertFalse(Table() == other)
            self.assertTrue(Table() != other)


class TableOf(unittest.TestCase):
    def test_by_numbers(self):
        lot, starts = sample_lot(), [13, 19, 4, 8, 0, 5]
        for frames in (lot, lot[::-1]):
            table = table_of(frames, starts)
            self.assertIsInstance(table, Table)
            self.assertEqual(table.told(), list(ROWS))
        self.assertEqual([frame.name for frame in lot], ["y", "x"])
        self.assertEqual(starts, [13, 19, 4, 8, 0, 5])
        starts[0] = 99
        self.assertEqual(table.of("x"), (13, 19))
        self.assertEqual(table_of(starts=[1, 2, 3, 4, 5, 6], frames=lot).of("x", 1), (3, 4))

    def test_one_line_and_three(self):
        lot = [Frame("w", (LONG, SHORT), every=20), Frame("v", (SHORT,), every=20)]
        self.assertEqual(table_of(lot, [7, 1, 2, 3, 4]).told(), [("v", 0, (7,)), ("w", 0, (1, 2, 3)), ("w", 1, (4,))])

    def test_no_frames(self):
        self.assertEqual(table_of([], []), Table())


class Faults(unittest.TestCase):
    def faults(self, table, slack=1, frames=None):
        net = sample_net()
        lot = sample_lot() if frames is None else frames
        before = list(lot)
        rows = table.told()
        told = faults(net, lot, table, slack=slack)
        self.assertEqual(lot, before)
        self.assertEqual(net, sample_net())
        self.assertEqual(table.told(), rows)
        self.assertEqual(told, faults(slack=slack, table=table, frames=lot[::-1], net=net))
        return told

    def test_right_tables(self):
        self.assertEqual(self.faults(Table(ROWS)), [])
        self.assertEqual(faults(sample_net(), sample_lot(), Table(ROWS)), [])
        self.assertEqual(self.faults(Table(), frames=[]), [])
        starts = settle(sample_net(), sample_lot(), slack=2)[0]
        self.assertEqual(self.faults(table_of(sample_lot(), starts), 2), [])

    def test_none(self):
        self.assertEqual(self.faults(Table()), [("none", "x", 0), ("none", "x", 1), ("none", "y", 0)])
        self.assertEqual(self.faults(Table(ROWS[:1])), [("none", "x", 1), ("none", "y", 0)])
        self.assertEqual(self.faults(Table(ROWS[1:])), [("none", "x", 0)])
        self.assertEqual(self.faults(Table(ROWS[::2])), [("none", "x", 1)])

    def test_early(self):
        self.assertEqual(self.faults(with_row("x", 1, (3, 8))), [("early", "x", 1)])
        self.assertEqual(self.faults(with_row("x", 1, (-100, 8))), [("early", "x", 1)])
        self.assertEqual(self.faults(with_row("y", 0, (-1, 5))), [("early", "y", 0)])
        self.assertEqual(self.faults(with_row("x", 1, (4, 8))), [])

    def test_hurry(self):
        self.assertEqual(self.faults(with_row("x", 1, (5, 8))), [("hurry", "x", 1, 0)])
        self.assertEqual(self.faults(with_row("x", 1, (5, 9))), [])
        self.assertEqual(self.faults(with_row("x", 0, (14, 19))), [("hurry", "x", 0, 0)])
        self.assertEqual(self.faults(with_row("x", 1, (5, 8)), 0), [])
        self.assertEqual(self.faults(with_row("x", 1, (5, 7)), 0), [("hurry", "x", 1, 0)])

    def test_hurry_at_each_of_three_lines(self):
        lot = [Frame("w", (LONG,), every=20, long=2, last=40)]
        # The lines take 2 + 2 + 1, 2 + 1 + 1 and 2 + 1 + 1.
        for starts, wanted in (((0, 5, 9), []), ((0, 4, 9), [0]), ((0, 5, 8), [1]), ((0, 4, 7), [0, 1]),
                               ((9, 5, 1), [0, 1]), ((5, 9, 13), [0]), ((5, 10, 13), [1]), ((36, 0, 4), [0])):
            self.assertEqual(self.faults(Table([("w", 0, starts)]), frames=lot), [("hurry", "w", 0, h) for h in wanted])

    def test_late(self):
        self.assertEqual(self.faults(with_row("x", 1, (4, 29))), [])
        self.assertEqual(self.faults(with_row("x", 1, (4, 30))), [("late", "x", 1)])
        self.assertEqual(self.faults(with_row("x", 1, (4, 30)), 0), [])
        self.assertEqual(self.faults(with_row("x", 1, (4, 31)), 0), [("late", "x", 1)])
        self.assertEqual(self.faults(Table(ROWS[1:2] + (("y", 0, (0, 20)),)),), [("none", "x", 0), ("late", "y", 0)])
        self.assertEqual(self.faults(Table(ROWS[1:2] + (("y", 0, (0, 19)),)),), [("none", "x", 0)])

    def test_meet(self):
        # Rounds 20 and 30: y less x must be from 4 to 7 above a ten; 4 - 13 is -9, which is 1 above.
        self.assertEqual(meet((13, 20, 3), (4, 30, 2), slack=1)[:2], (1, 1))
        self.assertEqual(self.faults(Table(ROWS[:2] + (("y", 0, (4, 13)),))),
                         [("meet", ("x", 0, 0), ("y", 0, 0), 1, 1)])
        # 10 - 19 is -9 too, on the second line.
        self.assertEqual(self.faults(Table(ROWS[:2] + (("y", 0, (0, 10)),))),
                         [("meet", ("x", 0, 1), ("y", 0, 1), 1, 1)])

    def test_two_that_meet_in_the_slack_alone(self):
        # 6 - 13 is 3 above a ten: apart where nothing is early, not so with a slack of 1.
        table = Table(ROWS[:2] + (("y", 0, (6, 13)),))
        self.assertEqual(self.faults(table, 0), [])
        i, k = meet((13, 20, 3), (6, 30, 2), slack=1)[:2]
        self.assertEqual(self.faults(table, 1), [("meet", ("x", 0, 0), ("y", 0, 0), i, k)])

    def test_pairs_with_a_missing_row_do_not_meet(self):
        self.assertEqual(self.faults(Table([("y", 0, (4, 12)), ROWS[1]])), [("none", "x", 0)])
        self.assertEqual(self.faults(Table(ROWS[:2])), [("none", "y", 0)])

    def test_several_that_meet_go_by_the_pairs(self):
        lot = [Frame(name, (SHORT,), every=12, long=3) for name in ("w", "v", "u")]
        table = Table([("u", 0, (0,)), ("v", 0, (1,)), ("w", 0, (14,))])
        self.assertEqual(self.faults(table, 0, lot), [
            ("meet", ("u", 0, 0), ("v", 0, 0), 0, 0), ("meet", ("u", 0, 0), ("w", 0, 0), 0, -1),
            ("meet", ("v", 0, 0), ("w", 0, 0), 0, -1)])

    def test_all_kinds_in_their_order(self):
        lot = sample_lot() + [Frame("w", (SHORT, LONG), every=20, release=5, last=20)]
        # w: q takes 2, k, p and o take 4, 3 and 3; its last moments are 23 and 22.
        table = Table([("w", 1, (4, 7, 30)), ("x", 1, (3, 30)), ("y", 0, (-2, 2)), ("x", 0, (-1, 99))])
        told = self.faults(table, 1, lot)
        self.assertEqual(told[:9], [
            ("none", "w", 0), ("early", "w", 1), ("hurry", "w", 1, 0), ("late", "w", 1),
            ("early", "x", 0), ("late", "x", 0), ("early", "x", 1), ("late", "x", 1), ("early", "y", 0)])
        self.assertEqual(told[9], ("hurry", "y", 0, 0))
        # Starts by numbers: w 1 on q, 2 on k, 3 on p, 4 on o; x 5 on k, 6 on m, 7 on n, 8 on o; y 9 on k, 10 on m.
        places = [("w", 1, 0), ("w", 1, 2), ("x", 0, 0), ("x", 0, 1), ("x", 1, 1), ("y", 0, 0), ("y", 0, 1)]
        sendings = dict(zip(places, [(4, 20, 1), (30, 20, 1), (-1, 20, 3), (99, 20, 3), (30, 20, 3), (-2, 30, 2),
                                     (2, 30, 2)]))
        wanted = []
        for one, other in ((0, 2), (0, 5), (1, 4), (2, 5), (3, 6)):
            met = meet(sendings[places[one]], sendings[places[other]], slack=1)
            if met is not None:
                wanted.append(("meet", places[one], places[other], met[0], met[1]))
        self.assertEqual(told[10:], wanted)
        self.assertGreaterEqual(len(wanted), 3)

    def test_early_hurry_and_late_of_one_way(self):
        lot = [Frame("w", (LONG,), every=20, long=2, release=3, last=20)]
        self.assertEqual(self.faults(Table([("w", 0, (2, 6, 30))]), 1, lot),
                         [("early", "w", 0), ("hurry", "w", 0, 0), ("late", "w", 0)])
        lot = [Frame("w", (LONG,), every=20, long=2, release=3, last=16)]
        self.assertEqual(self.faults(Table([("w", 0, (40, 39, 38))]), 1, lot),
                         [("hurry", "w", 0, 0), ("hurry", "w", 0, 1), ("late", "w", 0)])

    def test_rows_of_ways_that_the_lot_has_not(self):
        more = (("y", 1, (4, 12)), ("z", 0, (13, 19)), ("w", 1, (1, 2, 3)))
        self.assertEqual(self.faults(Table(ROWS + more)), [])
        self.assertEqual(self.faults(Table(more)), [("none", "x", 0), ("none", "x", 1), ("none", "y", 0)])

    def test_starts_however_far_away(self):
        lot = [Frame("v", (SHORT,), every=12, long=3), Frame("w", (SHORT,), every=12, long=3)]
        far = 12 * 10 ** 30
        self.assertEqual(self.faults(Table([("v", 0, (0,)), ("w", 0, (far + 1,))]), 0, lot),
                         [("late", "w", 0), ("meet", ("v", 0, 0), ("w", 0, 0), 0, -10 ** 30)])
        self.assertEqual(self.faults(Table([("v", 0, (0,)), ("w", 0, (far + 3,))]), 0, lot), [("late", "w", 0)])

    def test_held_against_every_pair(self):
        chance = random.Random(8)
        net = sample_net()
        lot = [Frame("v", (SHORT,), every=12, long=2), Frame("u", (SHORT,), every=8, long=1),
               Frame("w", (SHORT,), every=20, long=1)]
        rounds = {"u": (8, 1), "v": (12, 2), "w": (20, 1)}
        for turn in range(100):
            starts = {name: chance.randint(0, 60) for name in rounds}
            wanted = []
            for one, other in (("u", "v"), ("u", "w"), ("v", "w")):
                first, second = (starts[one], *rounds[one]), (starts[other], *rounds[other])
                if not apart(first, second):
                    i, k = meet(first, second)[:2]
                    wanted.append(("meet", (one, 0, 0), (other, 0, 0), i, k))
            table = Table([(name, 0, (starts[name],)) for name in starts])
            self.assertEqual(faults(net, lot, table), wanted)
        self.assertEqual(len(pairs(net, lot)), 3)

    def test_made_afresh(self):
        net, lot = sample_net(), sample_lot()
        faults(net, lot, Table()).clear()
        self.assertEqual(len(faults(net, lot, Table())), 3)


class Turns(unittest.TestCase):
    def test_every_node_worked_out_by_hand(self):
        net, lot, table = sample_net(), sample_lot(), Table(ROWS)
        wanted = {
            "a": sorted([((13 + 20 * j) % 120, "k", "x", 0, 0, j) for j in range(6)]
                        + [((4 + 20 * j) % 120, "n", "x", 1, 0, j) for j in range(6)]),
            "b": [],
            "c": [(0, "k", "y", 0, 0, 0), (30, "k", "y", 0, 0, 1), (60, "k", "y", 0, 0, 2), (90, "k", "y", 0, 0, 3)],
            "g": [(5, "m", "y", 0, 1, 0), (19, "m", "x", 0, 1, 0), (35, "m", "y", 0, 1, 1), (39, "m", "x", 0, 1, 1),
                  (59, "m", "x", 0, 1, 2), (65, "m", "y", 0, 1, 2), (79, "m", "x", 0, 1, 3), (95, "m", "y", 0, 1, 3),
                  (99, "m", "x", 0, 1, 4), (119, "m", "x", 0, 1, 5)],
            "h": [(8, "o", "x", 1, 1, 0), (28, "o", "x", 1, 1, 1), (48, "o", "x", 1, 1, 2), (68, "o", "x", 1, 1, 3),
                  (88, "o", "x", 1, 1, 4), (108, "o", "x", 1, 1, 5)],
        }
        for node, rows in wanted.items():
            self.assertEqual(turns(net, lot, table, node), rows)
            self.assertEqual(turns(node=node, table=table, frames=lot[::-1], net=net), rows)
        self.assertEqual(wanted["a"][:3], [(4, "n", "x", 1, 0, 0), (13, "k", "x", 0, 0, 0), (24, "n", "x", 1, 0, 1)])
        self.assertEqual([frame.name for frame in lot], ["y", "x"])

    def test_they_go_round_in_the_common_round(self):
        frame = Frame("w", (SHORT,), every=60, release=50)
        table = Table([("w", 0, (110,))])
        self.assertEqual(turns(sample_net(), [frame], table, "c"), [(50, "q", "w", 0, 0, 1), (110, "q", "w", 0, 0, 0)])
        table = Table([("w", 0, (500,))])
        self.assertEqual(turns(sample_net(), [frame], table, "c"), [(20, "q", "w", 0, 0, 0), (80, "q", "w", 0, 0, 1)])
        table = Table([("w", 0, (-1,))])
        self.assertEqual(turns(sample_net(), [frame], table, "c"), [(59, "q", "w", 0, 0, 1), (119, "q", "w", 0, 0, 0)])

    def test_the_longest_round_and_the_shortest(self):
        frame = Frame("w", (SHORT,), every=120)
        self.assertEqual(turns(sample_net(), [frame], Table([("w", 0, (119,))]), "c"), [(119, "q", "w", 0, 0, 0)])
        self.assertEqual(turns(sample_net(), [frame], Table([("w", 0, (120,))]), "c"), [(0, "q", "w", 0, 0, 0)])
        frame = Frame("w", (SHORT,), every=4)
        self.assertEqual(turns(sample_net(), [frame], Table([("w", 0, (3,))]), "c"),
                         [(3 + 4 * j, "q", "w", 0, 0, j) for j in range(30)])

    def test_three_lines_and_nodes_between(self):
        frame = Frame("w", (LONG,), every=120)
        table = Table([("w", 0, (1, 10, 20))])
        net = sample_net()
        self.assertEqual(turns(net, [frame], table, "c"), [(1, "k", "w", 0, 0, 0)])
        self.assertEqual(turns(net, [frame], table, "g"), [(10, "p", "w", 0, 1, 0)])
        self.assertEqual(turns(net, [frame], table, "h"), [(20, "o", "w", 0, 2, 0)])
        self.assertEqual(turns(net, [frame], table, "b"), [])
        self.assertEqual(turns(net, [frame], table, "a"), [])

    def test_turns_of_one_moment_go_by_line_name_and_way(self):
        lot = [Frame("w", (LONG, SHORT), every=120), Frame("v", (SHORT,), every=120)]
        table = Table([("w", 0, (5, 15, 25)), ("w", 1, (5,)), ("v", 0, (5,))])
        self.assertEqual(turns(sample_net(), lot, table, "c"),
                         [(5, "k", "w", 0, 0, 0), (5, "q", "v", 0, 0, 0), (5, "q", "w", 1, 0, 0)])

    def test_no_frames(self):
        self.assertEqual(turns(sample_net(), [], Table(), "a"), [])

    def test_what_is_no_node(self):
        net, lot, table = sample_net(), sample_lot(), Table(ROWS)
        for text in ("k", "q", "z", "x", "", "A"):
            with self.assertRaises(NoName) as caught:
                turns(net, lot, table, text)
            self.assertEqual(caught.exception.name, text)

    def test_made_afresh(self):
        net, lot, table = sample_net(), sample_lot(), Table(ROWS)
        turns(net, lot, table, "c").clear()
        self.assertEqual(len(turns(net, lot, table, "c")), 4)
        self.assertEqual(table, Table(ROWS))


class Worst(unittest.TestCase):
    def test_worked_out_by_hand(self):
        net, (y, x), table = sample_net(), sample_lot(), Table(ROWS)
        # y: 5 - 0 + 2 + 3 + 1; x: 19 - 4 + 3 + 3 + 1 by the first way, 8 - 4 + 3 + 1 + 1 by the second.
        self.assertEqual(worst(net, y, table, slack=1), (11, 0))
        self.assertEqual(worst(net, x, table, slack=1), (9, 1))
        self.assertEqual(worst(net, y, table), (10, 0))
        self.assertEqual(worst(slack=0, table=table, frame=x, net=net), (8, 1))

    def test_the_first_way_is_the_sooner(self):
        net, (y, x) = sample_net(), sample_lot()
        self.assertEqual(worst(net, x, Table([("x", 0, (4, 10)), ("x", 1, (4, 20))]), slack=1), (13, 0))

    def test_both_ways_alike(self):
        net, (y, x) = sample_net(), sample_lot()
        # 10 + 3 by the first way, 12 + 1 by the second.
        self.assertEqual(worst(net, x, Table([("x", 1, (4, 12)), ("x", 0, (4, 10))]), slack=1), (13, 0))
        self.assertEqual(worst(net, x, Table([("x", 1, (4, 11)), ("x", 0, (4, 10))]), slack=1), (12, 1))
        self.assertEqual(worst(net, x, Table([("x", 1, (4, 13)), ("x", 0, (4, 10))]), slack=1), (13, 0))

    def test_one_line_and_three(self):
        net = sample_net()
        frame = Frame("w", (SHORT, LONG), every=20, long=2, release=3)
        self.assertEqual(worst(net, frame, Table([("w", 0, (40,)), ("w", 1, (3, 8, 12))]), slack=2), (14, 1))
        self.assertEqual(worst(net, frame, Table([("w", 0, (9,)), ("w", 1, (3, 8, 12))]), slack=2), (10, 0))

    def test_it_judges_no_lot(self):
        net = sample_net()
        # Too long for its round with that slack, and too late.
        frame = Frame("w", (SHORT,), every=4, long=4, last=1)
        self.assertEqual(worst(net, frame, Table([("w", 0, (5,))]), slack=30), (39, 0))

    def test_nothing_is_changed(self):
        net, (y, x), table = sample_net(), sample_lot(), Table(ROWS)
        worst(net, x, table, slack=1)
        self.assertEqual((net, table), (sample_net(), Table(ROWS)))


if __name__ == "__main__":
    unittest.main()
