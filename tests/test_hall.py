"""Point 22, points 1 to 3, 6, 10 and 15 where they speak of a hall's deeds, and the interface of slotwright/hall.py."""

import random
import unittest

from samples import (
    LOWER, OTHER, SHORT, UPPER, all_of, bad_lots, heavy_hall, history, looks, parameters, refused, sample_hall, sample_lot,
    sample_net, short, with_frames)
from slotwright.errors import (
    BadEnds, BadName, BadNumber, BadWay, Full, Heavy, InUse, Late, NetError, NoName, NoPlan, NoRoom, NoStep, Taken, Tight)
from slotwright.frames import Frame
from slotwright.hall import Hall
from slotwright.lots import least_lot, plan
from slotwright.moves import fewest, squeeze
from slotwright.net import Net
from slotwright.tables import Table, faults
from slotwright.wants import chances, measure


class HallTest(unittest.TestCase):
    def no_deed(self, hall, error, deed, **fields):
        """The deed is refused; all is as it was but for `tried`."""
        before, rows, tried = looks(hall), history(hall), hall.tried
        refused(self, error, lambda: deed(hall), **fields)
        self.assertEqual(hall.tried, tried + 1)
        self.assertEqual((looks(hall), history(hall)), (before, rows))

    def stands(self, hall, deed):
        """The deed stands: it is one more, it can be taken back and done again, and nothing else can."""
        before, tried = all_of(hall)[:5], hall.tried
        self.assertIsNone(deed(hall))
        self.assertEqual(hall.tried, tried + 1)
        behind = all_of(hall)[:5]
        self.assertEqual(faults(hall.net_now(), hall.frames_now(), hall.table_now(), slack=hall.slack_now()), [])
        refused(self, NoStep, hall.redo)
        self.assertIsNone(hall.undo())
        self.assertEqual(all_of(hall)[:5], before)
        self.assertIsNone(hall.redo())
        self.assertEqual(all_of(hall)[:5], behind)
        self.assertEqual(hall.tried, tried + 1)


class Interface(HallTest):
    def test_arguments_and_defaults(self):
        self.assertEqual(parameters(Hall), "(*, slack=0)")
        self.assertEqual(parameters(Hall.line), "(name, senders, ears, *, wire=1)")
        for deed in (Hall.house, Hall.gate, Hall.drop, Hall.take):
            self.assertEqual(parameters(deed), "(name)")
        for deed in (Hall.put, Hall.squeeze, Hall.nudge):
            self.assertEqual(parameters(deed), "(frame)")
        self.assertEqual(parameters(Hall.slacken), "(slack)")
        for deed in (Hall.replan, Hall.undo, Hall.redo, Hall.twin, Hall.net_now, Hall.frames_now, Hall.table_now,
                     Hall.slack_now, Hall.moved):
            self.assertEqual(parameters(deed), "()")

    def test_a_new_hall(self):
        hall = Hall()
        self.assertEqual(all_of(hall), (Net(), [], Table(), 0, [], 0))
        self.assertIsInstance(hall.net_now(), Net)
        self.assertIsInstance(hall.table_now(), Table)
        self.assertEqual(Hall(slack=30).slack_now(), 30)

    def test_the_slack_of_a_new_hall(self):
        for slack in (-1, 31, True, False, 10 ** 30):
            refused(self, BadNumber, lambda: Hall(slack=slack))
        for slack in (0, 1, 30):
            self.assertEqual(Hall(slack=slack).slack_now(), slack)

    def test_by_names(self):
        hall = Hall(slack=1)
        hall.house(name="a")
        hall.gate(name="g")
        hall.line(wire=2, ears=("g",), senders=("a",), name="k")
        hall.drop(name="k")
        hall.slacken(slack=2)
        self.assertEqual(hall.tried, 5)
        hall = sample_hall()
        hall.put(frame=short("p"))
        hall.squeeze(frame=short("r"))
        hall.take(name="p")
        hall.nudge(frame=short("p"))
        self.assertEqual([frame.name for frame in hall.frames_now()], ["p", "r"])

    def test_looks_are_no_deeds(self):
        hall = sample_hall()
        self.assertEqual(hall.tried, 11)
        for turn in range(3):
            all_of(hall)
            hall.twin()
        self.assertEqual(hall.tried, 11)


class NetDeeds(HallTest):
    def test_they_stand(self):
        hall = Hall()
        self.stands(hall, lambda hall: hall.house("a"))
        self.stands(hall, lambda hall: hall.gate("g"))
        self.stands(hall, lambda hall: hall.line("k", ("a",), ("g", "a")))
        self.assertEqual(hall.net_now().ends("k"), (("a",), ("a", "g"), 1))
        self.stands(hall, lambda hall: hall.line("m", ("g",), ("a",), wire=30))
        self.assertEqual(hall.net_now().ends("m"), (("g",), ("a",), 30))
        self.stands(hall, lambda hall: hall.drop("m"))
        self.stands(hall, lambda hall: hall.drop("k"))
        self.stands(hall, lambda hall: hall.drop("a"))
        self.assertEqual((hall.net_now().names(), hall.net_now().kind("g")), (["g"], "gate"))

    def test_they_leave_frames_where_they_are(self):
        hall = with_frames(*sample_lot(), slack=1)
        table = hall.table_now()
        for deed in (lambda hall: hall.house("z"), lambda hall: hall.gate("zz"),
                     lambda hall: hall.line("l", ("z",), ("zz",)), lambda hall: hall.drop("l"),
                     lambda hall: hall.drop("q")):
            self.stands(hall, deed)
            self.assertEqual((hall.table_now(), hall.moved()), (table, []))

    def test_refused_as_by_a_net(self):
        hall = sample_hall()
        for name in ("", "A", "abcdefghi", "a b"):
            self.no_deed(hall, BadName, lambda hall: hall.house(name))
            self.no_deed(hall, BadName, lambda hall: hall.gate(name))
            self.no_deed(hall, BadName, lambda hall: hall.line(name, (), ()))
        for name in ("a", "g", "k"):
            self.no_deed(hall, Taken, lambda hall: hall.house(name), name=name)
            self.no_deed(hall, Taken, lambda hall: hall.gate(name), name=name)
            self.no_deed(hall, Taken, lambda hall: hall.line(name, (), ()), name=name)
        self.no_deed(hall, BadEnds, lambda hall: hall.line("z", (), ("z",), wire=-1))
        self.no_deed(hall, BadEnds, lambda hall: hall.line("z", ("z",), ("a", "a")))
        self.no_deed(hall, NoName, lambda hall: hall.line("z", ("a", "k"), ("y",), wire=31), name="k")
        self.no_deed(hall, NoName, lambda hall: hall.line("z", ("a",), ("",), wire=31), name="")
        for wire in (-1, 31, True, False):
            self.no_deed(hall, BadNumber, lambda hall: hall.line("z", ("a",), ("b",), wire=wire))

    def test_full(self):
        hall = sample_hall()
        for letter in "abcdefghijk":
            hall.house("z" + letter)
        self.no_deed(hall, Full, lambda hall: hall.house("y"))
        self.no_deed(hall, Full, lambda hall: hall.gate("y"))
        for letter in "abcdefghij":
            hall.line("y" + letter, ("a",), ("b",))
        self.no_deed(hall, Full, lambda hall: hall.line("w", (), ()))

    def test_drops_that_are_refused(self):
        hall = sample_hall()
        for name in ("z", "", "A", "x"):
            self.no_deed(hall, NoName, lambda hall: hall.drop(name), name=name)
        for name, line in (("a", "k"), ("b", "m"), ("c", "k"), ("g", "k"), ("h", "n")):
            self.no_deed(hall, InUse, lambda hall: hall.drop(name), name=line)

    def test_a_line_that_a_frame_goes_by(self):
        hall = with_frames(*sample_lot(), Frame("w", (LOWER,), every=120, last=20), slack=1)
        for line, name in (("k", "x"), ("m", "x"), ("n", "w"), ("o", "w")):
            self.no_deed(hall, InUse, lambda hall: hall.drop(line), name=name)
        # The line of the net first: k stands ahead of x in no order of names.
        self.no_deed(hall, InUse, lambda hall: hall.drop("a"), name="k")
        self.no_deed(hall, InUse, lambda hall: hall.drop("g"), name="k")
        # A frame's name is none of the net.
        self.no_deed(hall, NoName, lambda hall: hall.drop("x"), name="x")
        hall.take("x")
        self.no_deed(hall, InUse, lambda hall: hall.drop("k"), name="y")
        hall.take("y")
        self.stands(hall, lambda hall: hall.drop("k"))
        self.no_deed(hall, InUse, lambda hall: hall.drop("n"), name="w")

    def test_a_line_ahead_of_a_frame(self):
        hall = with_frames(Frame("aa", (SHORT,), every=120))
        self.no_deed(hall, InUse, lambda hall: hall.drop("c"), name="k")
        self.no_deed(hall, InUse, lambda hall: hall.drop("q"), name="aa")

    def test_a_name_of_a_frame_may_be_one_of_the_net(self):
        hall = with_frames(short("q"), short("a"))
        self.assertEqual([frame.name for frame in hall.frames_now()], ["a", "q"])
        self.no_deed(hall, InUse, lambda hall: hall.drop("q"), name="a")


class Put(HallTest):
    def test_it_plans_all_anew(self):
        hall = sample_hall(1)
        y, x = sample_lot()
        self.stands(hall, lambda hall: hall.put(y))
        self.assertEqual(hall.table_now().told(), [("y", 0, (0, 5))])
        self.stands(hall, lambda hall: hall.put(x))
        self.assertEqual(hall.table_now().told(), [("x", 0, (13, 19)), ("x", 1, (4, 8)), ("y", 0, (0, 5))])
        self.assertEqual(hall.frames_now(), [x, y])
        self.stands(hall, lambda hall: hall.put(Frame("a", (OTHER,), every=60, release=5, last=20)))
        self.assertEqual(hall.table_now(), plan(sample_net(), hall.frames_now(), slack=1))

    def test_no_plan(self):
        hall = with_frames(Frame("a", (UPPER,), every=120), short("s"), short("p"))
        self.no_deed(hall, NoPlan, lambda hall: hall.put(short("r")), lot=["p", "r", "s"])
        self.no_deed(hall, NoPlan, lambda hall: hall.put(short("b", long=6)), lot=["b", "s"])
        lot = hall.frames_now() + [short("r")]
        self.assertEqual(least_lot(sample_net(), lot)[0], ["p", "r", "s"])

    def test_the_list_of_no_plan_may_be_changed(self):
        hall = with_frames(short("s"), short("p"))
        for turn in range(2):
            with self.assertRaises(NoPlan) as caught:
                hall.put(short("r"))
            self.assertIsInstance(caught.exception.lot, list)
            self.assertEqual(caught.exception.lot, ["p", "r", "s"])
            caught.exception.lot.clear()

    def test_refused_lots(self):
        for frames, slack, error, fields in bad_lots():
            if len(frames) == 1 and error != BadNumber:
                hall = sample_hall(slack)
                for deed in ("put", "squeeze", "nudge"):
                    self.no_deed(hall, error, lambda hall: getattr(hall, deed)(frames[0]), **fields)

    def test_refused_beside_others(self):
        hall = with_frames(*sample_lot(), slack=1)
        for deed in ("put", "squeeze", "nudge"):
            for frame, error, fields in (
                    (short("x"), Taken, {"name": "x"}), (sample_lot()[0], Taken, {"name": "y"}),
                    (Frame("z", (("a", "q", "b"),), every=4), BadWay, {}),
                    (Frame("z", (("a", "zz", "b"),), every=4), BadWay, {}),
                    (short("z", 4, 4), Tight, {"name": "z"}), (short("z", last=3), Late, {"name": "z", "least": 4})):
                self.no_deed(hall, error, lambda hall: getattr(hall, deed)(frame), **fields)

    def test_a_ninth_one(self):
        hall = sample_hall()
        for name in "abcdefgh":
            hall.squeeze(short(name, 120, 1, last=100))
        for deed in ("put", "squeeze", "nudge"):
            self.no_deed(hall, Full, lambda hall: getattr(hall, deed)(short("i", 120, 1)))
            # Ahead of a name that is there.
            self.no_deed(hall, Full, lambda hall: getattr(hall, deed)(short("a", 120, 1)))

    def test_heavy(self):
        hall = heavy_hall()
        one_more = short("t", 4, 1, last=480)
        steps = measure(chances(sample_net(), hall.frames_now() + [one_more]))
        self.no_deed(hall, Heavy, lambda hall: hall.put(one_more), cases=steps)
        self.no_deed(hall, Heavy, lambda hall: hall.nudge(one_more), cases=steps)
        steps = measure(chances(sample_net(), hall.frames_now()))
        self.no_deed(hall, Heavy, lambda hall: hall.replan(), cases=steps)
        self.no_deed(hall, Heavy, lambda hall: hall.slacken(0), cases=steps)
        self.stands(hall, lambda hall: hall.squeeze(one_more))
        self.assertEqual([row[2] for row in hall.table_now().told()], [(0,), (1,), (2,), (3,)])


class Squeeze(HallTest):
    def test_the_others_stay(self):
        hall = with_frames(*sample_lot(), slack=1)
        table, frame = hall.table_now(), Frame("z", (UPPER, LOWER), every=60, long=1, release=3, last=40)
        wanted = squeeze(sample_net(), hall.frames_now(), table, frame, slack=1)[0]
        self.stands(hall, lambda hall: hall.squeeze(frame))
        self.assertEqual(hall.table_now(), wanted)
        self.assertEqual(hall.table_now().told()[:3], table.told())
        self.assertEqual(hall.moved(), [])

    def test_no_room(self):
        hall = with_frames(short("p"), short("r"))
        self.no_deed(hall, NoRoom, lambda hall: hall.squeeze(short("s")))
        # There would be room if p moved.
        hall = sample_hall()
        hall.squeeze(short("p", 8, 2))
        hall.squeeze(short("r", 8, 2, release=4))
        self.no_deed(hall, NoRoom, lambda hall: hall.squeeze(short("s", 8, 4)))
        self.stands(hall, lambda hall: hall.nudge(short("s", 8, 4)))


class Nudge(HallTest):
    def test_the_fewest_move(self):
        hall = sample_hall()
        hall.squeeze(short("p", 8, 2))
        hall.squeeze(short("r", 8, 2, release=4))
        wanted = fewest(sample_net(), hall.frames_now(), hall.table_now(), short("s", 8, 4))
        self.stands(hall, lambda hall: hall.nudge(short("s", 8, 4)))
        self.assertEqual(hall.table_now(), wanted[1])
        self.assertEqual(hall.moved(), wanted[0])
        self.assertEqual(hall.moved(), ["p"])

    def test_none_moves(self):
        hall = with_frames(*sample_lot(), slack=1)
        self.stands(hall, lambda hall: hall.nudge(short("z")))
        self.assertEqual(hall.moved(), [])
        self.assertEqual(hall.table_now().of("z"), (0,))

    def test_no_room(self):
        hall = with_frames(short("p"), short("r"))
        self.no_deed(hall, NoRoom, lambda hall: hall.nudge(short("s")))


class TakeSlackenReplan(HallTest):
    def test_take(self):
        hall = with_frames(*sample_lot(), short("z"), slack=1)
        rows = hall.table_now().told()
        self.stands(hall, lambda hall: hall.take("y"))
        self.assertEqual(hall.table_now().told(), [row for row in rows if row[0] != "y"])
        self.assertEqual([frame.name for frame in hall.frames_now()], ["x", "z"])
        self.assertEqual(hall.moved(), [])
        self.stands(hall, lambda hall: hall.take("x"))
        self.stands(hall, lambda hall: hall.take("z"))
        self.assertEqual((hall.frames_now(), hall.table_now()), ([], Table()))

    def test_names_that_are_not_there(self):
        hall = with_frames(*sample_lot(), slack=1)
        for name in ("z", "k", "a", "", "X"):
            self.no_deed(hall, NoName, lambda hall: hall.take(name), name=name)
        hall.take("x")
        self.no_deed(hall, NoName, lambda hall: hall.take("x"), name="x")

    def test_slacken(self):
        hall = with_frames(*sample_lot())
        for slack in (1, 2, 0, 0):
            self.stands(hall, lambda hall: hall.slacken(slack))
            self.assertEqual(hall.slack_now(), slack)
            self.assertEqual(hall.table_now(), plan(sample_net(), sample_lot(), slack=slack))
        hall = Hall()
        self.stands(hall, lambda hall: hall.slacken(30))
        self.assertEqual((hall.slack_now(), hall.table_now()), (30, Table()))

    def test_slacken_refused(self):
        hall = with_frames(*sample_lot(), short("z"))
        for slack in (-1, 31, True, False, 10 ** 30):
            self.no_deed(hall, BadNumber, lambda hall: hall.slacken(slack))
        self.no_deed(hall, Tight, lambda hall: hall.slacken(6), name="z")
        hall.take("z")
        # x takes 3 + 2 and 3 + 3 by its slower way, and the slack twice.
        self.no_deed(hall, Late, lambda hall: hall.slacken(10), name="x", least=31)
        hall = with_frames(short("p", 24, 3, last=24), short("r", 24, 3, last=24), short("s", 24, 3, last=24))
        self.stands(hall, lambda hall: hall.slacken(1))
        self.no_deed(hall, NoPlan, lambda hall: hall.slacken(6), lot=["p", "r", "s"])
        self.no_deed(hall, NoPlan, lambda hall: hall.slacken(10), lot=["r", "s"])
        self.assertEqual(hall.slack_now(), 1)

    def test_replan(self):
        hall = sample_hall()
        hall.squeeze(short("p", 8, 2))
        hall.squeeze(short("r", 8, 2, release=4))
        hall.squeeze(short("a", 8, 2))
        self.assertEqual([row[2] for row in hall.table_now().told()], [(2,), (0,), (4,)])
        self.stands(hall, lambda hall: hall.replan())
        self.assertEqual(hall.table_now(), plan(sample_net(), hall.frames_now()))
        self.assertNotEqual(hall.moved(), [])
        self.stands(hall, lambda hall: hall.replan())
        self.assertEqual(hall.moved(), [])
        self.stands(Hall(), lambda hall: hall.replan())


class UndoAndRedo(HallTest):
    def test_none_is_there(self):
        hall = Hall(slack=3)
        refused(self, NoStep, hall.undo)
        refused(self, NoStep, hall.redo)
        self.assertEqual(all_of(hall), (Net(), [], Table(), 3, [], 0))

    def test_over_many_deeds(self):
        hall, seen = Hall(slack=1), []
        y, x = sample_lot()
        deeds = [lambda: hall.house("a"), lambda: hall.house("b"), lambda: hall.house("c"), lambda: hall.gate("g"),
                 lambda: hall.gate("h"), lambda: hall.line("k", ("a", "c"), ("g",), wire=2),
                 lambda: hall.line("m", ("g",), ("b",), wire=3), lambda: hall.line("n", ("a",), ("h",), wire=0),
                 lambda: hall.line("o", ("h",), ("b",)), lambda: hall.line("q", ("c",), ("b",), wire=0),
                 lambda: hall.put(y), lambda: hall.put(x), lambda: hall.squeeze(short("z")), lambda: hall.nudge(short("w")),
                 lambda: hall.slacken(0), lambda: hall.take("y"), lambda: hall.replan(), lambda: hall.house("d"),
                 lambda: hall.drop("d"), lambda: hall.take("w")]
        for deed in deeds:
            seen.append(all_of(hall)[:5])
            deed()
        last = all_of(hall)[:5]
        for wanted in reversed(seen):
            hall.undo()
            self.assertEqual(all_of(hall)[:5], wanted)
        refused(self, NoStep, hall.undo)
        for wanted in seen[1:] + [last]:
            hall.redo()
            self.assertEqual(all_of(hall)[:5], wanted)
        refused(self, NoStep, hall.redo)
        self.assertEqual((all_of(hall)[:5], hall.tried), (last, len(deeds)))

    def test_a_new_deed_forgets_what_could_be_done_again(self):
        hall = Hall()
        for name in "abc":
            hall.house(name)
        hall.undo()
        hall.undo()
        hall.house("d")
        refused(self, NoStep, hall.redo)
        self.assertEqual(hall.net_now().names(), ["a", "d"])
        hall.undo()
        self.assertEqual(hall.net_now().names(), ["a"])
        hall.redo()
        self.assertEqual(hall.net_now().names(), ["a", "d"])

    def test_a_refused_deed_forgets_nothing(self):
        hall = with_frames(short("p"), short("r"))
        hall.undo()
        hall.undo()
        for deed in (lambda: hall.house("A"), lambda: hall.drop("z"), lambda: hall.take("p"), lambda: hall.slacken(31),
                     lambda: hall.put(short("p", 4, 5)), lambda: hall.squeeze(short("p", last=1))):
            with self.assertRaises(NetError):
                deed()
        hall.redo()
        hall.redo()
        self.assertEqual([frame.name for frame in hall.frames_now()], ["p", "r"])
        self.assertEqual(hall.tried, 11 + 2 + 6)

    def test_tried_is_not_taken_back(self):
        hall = sample_hall()
        for turn in range(4):
            hall.undo()
        for turn in range(2):
            hall.redo()
        refused(self, NoStep, Hall().undo)
        self.assertEqual(hall.tried, 11)


class Moved(HallTest):
    def test_behind_each_deed(self):
        hall = sample_hall()
        self.assertEqual(hall.moved(), [])
        hall.squeeze(short("s", 8, 2))
        hall.squeeze(short("r", 8, 2, release=4))
        self.assertEqual(hall.moved(), [])
        hall.put(short("p", 8, 2))
        # p, r and s: the first row of cases that has starts has p behind r, and r behind s.
        wanted = [name for name, start in (("r", 4), ("s", 0)) if hall.table_now().of(name) != (start,)]
        self.assertEqual(hall.moved(), wanted)
        hall.house("z")
        self.assertEqual(hall.moved(), [])
        hall.take("r")
        self.assertEqual(hall.moved(), [])
        before = hall.table_now()
        hall.replan()
        self.assertEqual(hall.moved(), [name for name in ("p", "s") if before.of(name) != hall.table_now().of(name)])

    def moving_hall(self):
        """A hall whose last deed moved r and not p."""
        hall = sample_hall()
        hall.squeeze(short("p", 24, 2, last=2))
        hall.squeeze(short("r", 24, 2, last=24))
        hall.nudge(short("s", 24, 3, release=2, last=3))
        self.assertEqual(hall.moved(), ["r"])
        return hall

    def test_behind_undo_and_redo(self):
        hall = self.moving_hall()
        hall.gate("z")
        self.assertEqual(hall.moved(), [])
        hall.undo()
        self.assertEqual(hall.moved(), ["r"])
        hall.undo()
        # The last deed that stands is the squeezing in of r.
        self.assertEqual(hall.moved(), [])
        hall.redo()
        self.assertEqual(hall.moved(), ["r"])
        hall.redo()
        self.assertEqual(hall.moved(), [])

    def test_a_refused_deed_leaves_it(self):
        hall = self.moving_hall()
        refused(self, NoName, lambda: hall.take("zz"), name="zz")
        refused(self, NoRoom, lambda: hall.squeeze(short("u", 24, 2, last=2)))
        self.assertEqual(hall.moved(), ["r"])

    def test_where_no_deed_stands(self):
        hall = self.moving_hall()
        for turn in range(hall.tried):
            hall.undo()
        self.assertEqual(hall.moved(), [])
        refused(self, NoStep, hall.undo)
        self.assertEqual(hall.moved(), [])

    def test_a_way_alone_moves(self):
        hall = sample_hall(1)
        y, x = sample_lot()
        hall.put(x)
        self.assertEqual(hall.table_now().of("x"), (4, 10))
        hall.put(y)
        # The second way stays at 4 and 8.
        self.assertEqual(hall.table_now().told(), [("x", 0, (13, 19)), ("x", 1, (4, 8)), ("y", 0, (0, 5))])
        self.assertEqual(hall.moved(), ["x"])

    def test_taken_and_put_frames_have_not_moved(self):
        hall = with_frames(short("p"), short("r"))
        hall.take("p")
        self.assertEqual(hall.moved(), [])
        hall.undo()
        hall.redo()
        self.assertEqual(hall.moved(), [])


class TwinsAndTold(HallTest):
    def test_twins_share_nothing(self):
        hall = with_frames(*sample_lot(), slack=1)
        hall.squeeze(short("z"))
        hall.undo()
        twin = hall.twin()
        self.assertIsInstance(twin, Hall)
        self.assertEqual((all_of(twin), history(twin)), (all_of(hall), history(hall)))
        before = all_of(hall), history(hall)
        third = twin.twin()
        twin.redo()
        twin.take("x")
        twin.house("zz")
        twin.drop("p")
        twin.slacken(2)
        for turn in range(9):
            twin.undo()
        refused(self, NoName, lambda: twin.take("zzz"), name="zzz")
        self.assertEqual((all_of(hall), history(hall)), before)
        self.assertEqual((all_of(third), history(third)), before)
        hall.redo()
        hall.house("d")
        self.assertEqual((all_of(third), history(third)), before)
        third.redo()
        self.assertEqual(third.table_now().of("z"), (0,))

    def test_told_nets_lists_and_tables_are_the_askers(self):
        hall = with_frames(*sample_lot(), slack=1)
        before, rows = all_of(hall), history(hall)
        net, frames, table = hall.net_now(), hall.frames_now(), hall.table_now()
        for line in ("k", "m", "n", "o", "p", "q"):
            net.drop(line)
        net.house("z")
        frames.clear()
        table.told().clear()
        table.rows.clear()
        hall.moved().append("zz")
        self.assertEqual((all_of(hall), history(hall)), (before, rows))
        hall.undo()
        net = hall.net_now()
        net.drop("q")
        hall.frames_now().append(short("zz"))
        hall.redo()
        self.assertEqual(all_of(hall), before)

    def test_a_refusal_in_the_middle_of_a_deed(self):
        # Each of these is refused only when much of it is done.
        hall = with_frames(*sample_lot(), short("p"), short("r"), slack=1)
        self.no_deed(hall, NoPlan, lambda hall: hall.put(short("s", long=2)), lot=["p", "r", "s"])
        self.no_deed(hall, NoRoom, lambda hall: hall.nudge(short("s", long=2)))
        self.no_deed(hall, NoRoom, lambda hall: hall.squeeze(short("s", long=2)))
        self.no_deed(hall, NoPlan, lambda hall: hall.slacken(2), lot=["p", "r"])
        self.no_deed(hall, InUse, lambda hall: hall.drop("q"), name="p")
        self.no_deed(hall, BadNumber, lambda hall: hall.line("z", ("a",), ("b",), wire=31))


class ManyDeeds(HallTest):
    def deed(self, chance):
        """A random deed."""
        name = chance.choice(("r", "s", "t", "u", "v"))
        ways = chance.choice(((UPPER,), (OTHER,), (SHORT,), (UPPER, LOWER)))
        frame = Frame(name, ways, every=chance.choice((12, 20, 24, 30)), long=chance.randint(1, 3),
                      release=chance.randint(0, 6), last=chance.randint(14, 20))
        return chance.choice((
            lambda hall: hall.put(frame), lambda hall: hall.squeeze(frame), lambda hall: hall.nudge(frame),
            lambda hall: hall.take(name), lambda hall: hall.slacken(chance.randint(0, 3)), lambda hall: hall.replan(),
            lambda hall: hall.drop(chance.choice(("q", "k", "z"))), lambda hall: hall.house(chance.choice(("z", "a"))),
            lambda hall: hall.line("q", ("c",), ("b",), wire=0)))

    def test_random_deeds(self):
        chance = random.Random(13)
        for run in range(12):
            hall, past, undone, tried = sample_hall(), [], [], 11
            for turn in range(11):
                past.append(None)
            for turn in range(40):
                now = looks(hall)
                step = chance.choice(("deed", "deed", "deed", "undo", "redo"))
                if step == "deed":
                    tried += 1
                    try:
                        self.deed(chance)(hall)
                    except NetError:
                        self.assertEqual(looks(hall), now)
                        continue
                    past.append(now)
                    undone = []
                elif step == "undo" and past and past[-1] is not None:
                    hall.undo()
                    undone.append(now)
                    self.assertEqual(looks(hall), past.pop())
                elif step == "redo" and undone:
                    hall.redo()
                    past.append(now)
                    self.assertEqual(looks(hall), undone.pop())
                self.assertEqual(hall.tried, tried)
                net, frames, table, slack = looks(hall)
                self.assertEqual(faults(net, frames, table, slack=slack), [])
                self.assertEqual(len(table), sum(len(frame.ways) for frame in frames))
                if past[-1] is not None:
                    ahead = {name: [row for row in past[-1][2].told() if row[0] == name]
                             for name in [frame.name for frame in past[-1][1]]}
                    behind = {name: [row for row in table.told() if row[0] == name]
                              for name in [frame.name for frame in frames]}
                    self.assertEqual(hall.moved(), sorted(name for name in behind if name in ahead
                                                          and ahead[name] != behind[name]))


if __name__ == "__main__":
    unittest.main()
