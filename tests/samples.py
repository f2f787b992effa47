"""What the tests of several modules lean on: nets, lots that are refused, halls, and how a refusal is looked over."""

import inspect

from slotwright.errors import BadNumber, BadWay, Full, Late, NetError, NoStep, Taken, Tight
from slotwright.frames import Frame
from slotwright.hall import Hall
from slotwright.net import Net
from slotwright.tables import Table

UPPER = ("a", "k", "g", "m", "b")
LOWER = ("a", "n", "h", "o", "b")
OTHER = ("c", "k", "g", "m", "b")
LONG = ("c", "k", "g", "p", "h", "o", "b")
SHORT = ("c", "q", "b")
ASTRAY = ("a", "q", "b")


def sample_net():
    """Houses a, b and c, gates g and h; k and m go over g, n and o over h, p from g to h, q straight."""
    net = Net()
    for name in ("a", "b", "c"):
        net.house(name)
    for name in ("g", "h"):
        net.gate(name)
    net.line("k", ("a", "c"), ("g",), wire=2)
    net.line("m", ("g",), ("b",), wire=3)
    net.line("n", ("a",), ("h",), wire=0)
    net.line("o", ("h",), ("b",), wire=1)
    net.line("p", ("g",), ("h",))
    net.line("q", ("c",), ("b",), wire=0)
    return net


def sample_lot():
    """With a slack of 1 x takes 6 and 7 by its first way, 4 and 5 by its second, and y 5 and 6."""
    return [Frame("y", (OTHER,), every=30, long=2, release=0, last=25),
            Frame("x", (UPPER, LOWER), every=20, long=3, release=4, last=30)]


def short(name, every=8, long=3, release=0, last=8):
    """A frame on the line q, whose wire is 0."""
    return Frame(name, (SHORT,), every=every, long=long, release=release, last=last)


def bad_lots():
    """Lots with their slack, the refusal that goes first in each, and its fields; later refusals are due in most too."""
    astray = Frame("d", (ASTRAY,), every=4, long=5, last=1)
    tight = Frame("e", (SHORT,), every=4, long=4, last=1)
    # With a slack of 1 the first way takes 3 + 4 and the second 2 + 3.
    late = Frame("f", (UPPER, LOWER), every=120, last=7)
    later = Frame("f", (LOWER, UPPER), every=120, last=8)
    second_astray = Frame("d", (LOWER, ("a", "q", "b")), every=120)
    many = [short(name) for name in "stuvwx"]
    twice = [short("z"), late, short("y"), tight, short("z"), short("y"), astray]
    rows = [(twice + many, slack, BadNumber, {}) for slack in (-1, 31, True, False, -10 ** 30, 10 ** 30)]
    rows += [([], -1, BadNumber, {}), ([], True, BadNumber, {})]
    rows += [(twice + many, 0, Full, {}), (many + [short(name) for name in "abc"], 30, Full, {})]
    rows += [(twice, 1, Taken, {"name": "y"}), ([astray, astray], 1, Taken, {"name": "d"})]
    rows += [([late, tight, astray], 1, BadWay, {}), ([second_astray], 1, BadWay, {})]
    rows += [([late, tight], 1, Tight, {"name": "e"}), ([short("e", 4, 3), late], 2, Tight, {"name": "e"})]
    rows += [([late], 1, Late, {"name": "f", "least": 9}), ([later], 1, Late, {"name": "f", "least": 9})]
    # In the order of names: what is wrong with the one of the first name goes first.
    rows += [([Frame("g", (ASTRAY,), every=4), late], 1, Late, {"name": "f", "least": 9}),
             ([Frame("a", (UPPER,), every=120, last=1), tight, astray], 0, Late, {"name": "a", "least": 7}),
             ([Frame("g", (ASTRAY,), every=4), tight], 1, Tight, {"name": "e"})]
    return rows


def refused(test, error, deed, **fields):
    """The deed is refused with just this error and these fields."""
    with test.assertRaises(NetError) as caught:
        deed()
    test.assertIs(caught.exception.__class__, error)
    for field, value in fields.items():
        test.assertEqual(getattr(caught.exception, field), value)


def parameters(thing):
    """The parameters of a function or class as they are written, `self` left out."""
    return str(inspect.signature(thing)).replace("(self, ", "(").replace("(self)", "()")


def sample_hall(slack=0):
    """A hall with the sample net and no frames."""
    hall = Hall(slack=slack)
    net = sample_net()
    for name in net.names():
        if net.kind(name) == "house":
            hall.house(name)
        if net.kind(name) == "gate":
            hall.gate(name)
    for name in net.names():
        if net.kind(name) == "line":
            senders, ears, wire = net.ends(name)
            hall.line(name, senders, ears, wire=wire)
    return hall


def with_frames(*frames, slack=0):
    """The sample hall with frames that are put in one after the other."""
    hall = sample_hall(slack)
    for frame in frames:
        hall.put(frame)
    return hall


def heavy_hall():
    """A hall whose lot is too heavy to be planned: its last frame was squeezed in."""
    hall = sample_hall()
    for name in "prs":
        hall.squeeze(short(name, 4, 1, last=480))
    return hall


def all_of(hall):
    """All that a hall tells of itself, copied: what is told stays as it is here, whoever changes it."""
    return (hall.net_now().twin(), list(hall.frames_now()), Table(hall.table_now().told()), hall.slack_now(),
            list(hall.moved()), hall.tried)


def looks(hall):
    """All that a hall tells but for how many deeds were tried and what was moved last."""
    return all_of(hall)[:4]


def history(hall):
    """What stood behind each deed, the first one first, and what can be done again."""
    twin, rows = hall.twin(), []
    while True:
        rows.append(all_of(twin)[:5])
        try:
            twin.undo()
        except NoStep:
            break
    rows.reverse()
    back, again = hall.twin(), []
    while True:
        try:
            back.redo()
        except NoStep:
            return rows, again
        again.append(all_of(back)[:5])
