"""Point 3, points 1 and 2 where they speak of nets, and the interface of slotwright/net.py."""

import itertools
import unittest

from slotwright.errors import BadEnds, BadName, BadNumber, Full, InUse, NoName, Taken
from slotwright.net import Net

BAD_NAMES = ("", "A", "aB", "a1", "1", "a b", " a", "a ", "a-b", "a.b", "abcdefghi", "{", "`", "~")
GOOD_NAMES = ("a", "z", "abcdefgh", "zzzzzzzz", "house", "line")


def small_net():
    """Houses a and b, gates g and h, lines k and m."""
    net = Net()
    for name in ("a", "b"):
        net.house(name)
    for name in ("g", "h"):
        net.gate(name)
    net.line("m", ("a", "g"), ("g", "b"), wire=3)
    net.line("k", ("h",), ("a", "g"))
    return net


def letters(many, ahead):
    """So many names, each with the sign ahead."""
    return [ahead + letter for letter in "abcdefghijklmnopqrstuvwxyz"[:many]]


def full_net(nodes, lines):
    """So many nodes, houses and gates by turns, and so many lines."""
    net = Net()
    for at, name in enumerate(letters(nodes, "n")):
        if at % 2 == 0:
            net.house(name)
        else:
            net.gate(name)
    for name in letters(lines, "l"):
        net.line(name, ("na",), ("nb",))
    return net


class NetTest(unittest.TestCase):
    def refused(self, error, net, deed, name=None):
        """The deed is refused with just this error, and the net is what it was."""
        ahead = net.twin()
        told = [(each, net.kind(each)) for each in net.names()]
        with self.assertRaises(error) as caught:
            deed()
        self.assertIs(caught.exception.__class__, error)
        if name is not None:
            self.assertEqual(caught.exception.name, name)
        self.assertEqual(net, ahead)
        self.assertEqual([(each, net.kind(each)) for each in net.names()], told)


class Ordinary(NetTest):
    def test_an_empty_net(self):
        self.assertEqual(Net().names(), [])
        self.assertEqual(len(Net()), 0)
        self.assertEqual(Net(), Net())

    def test_names_kinds_and_ends(self):
        net = small_net()
        self.assertEqual(net.names(), ["a", "b", "g", "h", "k", "m"])
        self.assertEqual([net.kind(name) for name in net.names()], ["house", "house", "gate", "gate", "line", "line"])
        self.assertEqual(net.ends("m"), (("a", "g"), ("b", "g"), 3))
        self.assertEqual(net.ends("k"), (("h",), ("a", "g"), 1))
        self.assertEqual(len(net), 6)

    def test_ends_are_told_in_the_order_of_names_however_they_came(self):
        for senders in itertools.permutations(("a", "b", "g")):
            for ears in itertools.permutations(("b", "g", "h")):
                net = small_net()
                net.line("o", senders, ears, wire=7)
                self.assertEqual(net.ends("o"), (("a", "b", "g"), ("b", "g", "h"), 7))
                self.assertEqual(net.twin().ends("o"), (("a", "b", "g"), ("b", "g", "h"), 7))

    def test_names_are_told_in_order_however_they_came(self):
        for names in itertools.permutations(("b", "a", "ab", "aa")):
            net = Net()
            for at, name in enumerate(names):
                if at < 2:
                    net.house(name)
                else:
                    net.gate(name)
            net.line("ac", ("a",), ("b",))
            self.assertEqual(net.names(), ["a", "aa", "ab", "ac", "b"])

    def test_deeds_tell_nothing(self):
        net = Net()
        self.assertIsNone(net.house("a"))
        self.assertIsNone(net.gate("g"))
        self.assertIsNone(net.line("m", ("a",), ("g",)))
        self.assertIsNone(net.drop("m"))

    def test_every_good_name(self):
        for name in GOOD_NAMES:
            net = Net()
            net.house(name)
            self.assertEqual(net.names(), [name])

    def test_drop(self):
        net = small_net()
        net.drop("k")
        self.assertEqual(net.names(), ["a", "b", "g", "h", "m"])
        net.drop("h")
        net.drop("m")
        net.drop("g")
        net.drop("a")
        self.assertEqual(net.names(), ["b"])
        self.assertEqual(len(net), 1)
        net.gate("a")
        self.assertEqual(net.kind("a"), "gate")

    def test_a_dropped_line_may_come_again_otherwise(self):
        net = small_net()
        net.drop("m")
        self.refused(NoName, net, lambda: net.ends("m"), "m")
        net.line("m", ("b",), ("b",), wire=0)
        self.assertEqual(net.ends("m"), (("b",), ("b",), 0))


class Refusals(NetTest):
    def test_bad_names(self):
        net = small_net()
        for name in BAD_NAMES:
            with self.subTest(name=name):
                self.refused(BadName, net, lambda: net.house(name))
                self.refused(BadName, net, lambda: net.gate(name))
                self.refused(BadName, net, lambda: net.line(name, ("a",), ("b",)))

    def test_taken_names(self):
        net = small_net()
        for name in net.names():
            self.refused(Taken, net, lambda: net.house(name), name)
            self.refused(Taken, net, lambda: net.gate(name), name)
            self.refused(Taken, net, lambda: net.line(name, ("a",), ("b",)), name)

    def test_bad_ends(self):
        net = full_net(7, 0)
        seven = tuple(letters(7, "n"))
        for bad in ((), seven, ("na", "na"), ("na", "nb", "na"), seven[:5] + ("na",)):
            self.refused(BadEnds, net, lambda: net.line("m", bad, ("na",)))
            self.refused(BadEnds, net, lambda: net.line("m", ("na",), bad))
        net.line("m", seven[:6], seven[1:])
        self.assertEqual(net.ends("m"), (seven[:6], seven[1:], 1))

    def test_one_name_may_be_in_both_ends(self):
        net = small_net()
        net.line("o", ("a", "b"), ("b", "a"))
        self.assertEqual(net.ends("o"), (("a", "b"), ("a", "b"), 1))

    def test_ends_that_are_no_house_or_gate(self):
        net = small_net()
        for text in ("x", "k", "m", "o", "", "A", "a b", "abcdefghijk"):
            self.refused(NoName, net, lambda: net.line("o", ("a", text), ("b",)), text)
            self.refused(NoName, net, lambda: net.line("o", ("a",), (text, "b")), text)
        self.refused(NoName, net, lambda: net.line("o", ("y", "x"), ("w",)), "y")
        self.refused(NoName, net, lambda: net.line("o", ("a",), ("b", "y", "x")), "y")

    def test_wires(self):
        net = small_net()
        for wire in (-1, 31, 10 ** 30, -10 ** 30, True, False):
            self.refused(BadNumber, net, lambda: net.line("o", ("a",), ("b",), wire=wire))
        for wire in (0, 1, 30):
            net.line("o", ("a",), ("b",), wire=wire)
            self.assertEqual(net.ends("o")[2], wire)
            net.drop("o")

    def test_a_wire_of_very_many_figures(self):
        net = small_net()
        self.refused(BadNumber, net, lambda: net.line("o", ("a",), ("b",), wire=10 ** 5000))

    def test_what_is_told_first_goes_first(self):
        net = full_net(4, 15)
        good, twice, none = ("na",), ("nb", "nb"), ("x",)
        # Each row has one wrong fewer than the one ahead of it.
        rows = [
            (BadName, "BAD", twice, (), 31), (Taken, "na", twice, (), 31),
            (BadEnds, "m", twice, none, 31), (BadEnds, "m", none, twice, True), (BadEnds, "m", good, ("x", "x"), 31),
            (NoName, "m", none, ("y",), 31), (NoName, "m", good, none, False), (BadNumber, "m", good, good, 31),
        ]
        for error, name, senders, ears, wire in rows:
            told = {BadName: None, BadEnds: None, BadNumber: None, Taken: name}.get(error, "x")
            self.refused(error, net, lambda: net.line(name, senders, ears, wire=wire), told)

    def test_full_goes_behind_the_name_and_ahead_of_the_ends(self):
        net = full_net(16, 16)
        self.refused(BadName, net, lambda: net.house("A"))
        self.refused(Taken, net, lambda: net.gate("la"), "la")
        self.refused(BadName, net, lambda: net.line("A", (), ()))
        self.refused(Taken, net, lambda: net.line("na", (), (), wire=31), "na")
        self.refused(Full, net, lambda: net.line("m", (), ("x", "x"), wire=True))
        self.refused(Full, net, lambda: net.line("m", ("x",), ("y",), wire=31))

    def test_a_seventeenth_house_or_gate(self):
        net = full_net(15, 0)
        net.house("last")
        self.assertEqual(len(net), 16)
        self.refused(Full, net, lambda: net.house("more"))
        self.refused(Full, net, lambda: net.gate("more"))
        net.line("m", ("last",), ("na",))
        net.drop("nc")
        net.gate("more")
        self.refused(Full, net, lambda: net.house("nc"))

    def test_a_seventeenth_line(self):
        net = full_net(2, 15)
        net.line("last", ("nb",), ("na",))
        self.assertEqual(len(net), 18)
        self.refused(Full, net, lambda: net.line("more", ("na",), ("nb",)))
        net.house("h")
        net.drop("la")
        net.line("more", ("na",), ("nb",))
        self.refused(Full, net, lambda: net.line("la", ("na",), ("nb",)))

    def test_sixteen_of_one_kind_alone(self):
        for kind in ("house", "gate"):
            net = Net()
            for name in letters(16, "n"):
                if kind == "house":
                    net.house(name)
                else:
                    net.gate(name)
            self.assertEqual(len(net), 16)
            self.refused(Full, net, lambda: net.house("x"))
            self.refused(Full, net, lambda: net.gate("x"))

    def test_what_stands_at_a_line_is_in_use(self):
        net = small_net()
        self.refused(InUse, net, lambda: net.drop("a"), "k")
        self.refused(InUse, net, lambda: net.drop("b"), "m")
        self.refused(InUse, net, lambda: net.drop("g"), "k")
        self.refused(InUse, net, lambda: net.drop("h"), "k")
        net.drop("k")
        self.refused(InUse, net, lambda: net.drop("a"), "m")
        net.drop("h")

    def test_a_house_that_stands_at_a_line_twice(self):
        net = Net()
        net.house("a")
        net.line("m", ("a",), ("a",))
        self.refused(InUse, net, lambda: net.drop("a"), "m")
        net.drop("m")
        net.drop("a")
        self.assertEqual(net, Net())

    def test_what_is_not_there(self):
        net = small_net()
        for text in ("x", "", "A", "a b", "houses"):
            self.refused(NoName, net, lambda: net.drop(text), text)
            self.refused(NoName, net, lambda: net.kind(text), text)
            self.refused(NoName, net, lambda: net.ends(text), text)

    def test_ends_of_what_is_no_line(self):
        net = small_net()
        for name in ("a", "b", "g", "h"):
            self.refused(NoName, net, lambda: net.ends(name), name)


class Sharing(NetTest):
    def test_told_names_may_be_changed(self):
        net = small_net()
        told = net.names()
        told.append("x")
        told[0] = "y"
        self.assertEqual(net.names(), ["a", "b", "g", "h", "k", "m"])
        self.assertEqual(net, small_net())

    def test_a_twin_and_its_original_changed_by_turns(self):
        net = small_net()
        twin = net.twin()
        self.assertEqual(twin, net)
        self.assertEqual(net, twin)
        net.house("x")
        self.assertEqual(twin, small_net())
        twin.drop("k")
        self.assertEqual(net.ends("k"), (("h",), ("a", "g"), 1))
        twin.house("x")
        self.assertNotEqual(twin, net)
        net.drop("k")
        self.assertEqual(twin, net)
        twin.line("o", ("x",), ("x",))
        self.assertEqual(net.names(), ["a", "b", "g", "h", "m", "x"])
        net.drop("m")
        self.assertEqual(twin.ends("m"), (("a", "g"), ("b", "g"), 3))
        self.assertEqual(twin.kind("m"), "line")

    def test_a_twin_of_an_empty_net(self):
        net = Net()
        twin = net.twin()
        twin.house("a")
        self.assertEqual(net, Net())


class Equality(NetTest):
    def test_nets_built_in_another_order(self):
        one, two = Net(), Net()
        one.house("a")
        one.gate("g")
        one.line("k", ("a",), ("g",))
        one.line("m", ("g",), ("a",), wire=2)
        two.gate("g")
        two.house("a")
        two.line("m", ("g",), ("a",), wire=2)
        two.line("k", ("a",), ("g",), wire=1)
        self.assertTrue(one == two)
        self.assertFalse(one != two)
        self.assertEqual(one.names(), two.names())

    def test_ends_put_in_in_another_order(self):
        rows = [(("a", "g", "b"), ("g", "h")), (("b", "a", "g"), ("g", "h")), (("a", "b", "g"), ("h", "g"))]
        nets = [small_net() for row in rows]
        for net, (senders, ears) in zip(nets, rows):
            net.line("o", senders, ears)
        for one, two in itertools.product(nets, nets):
            self.assertTrue(one == two)
            self.assertFalse(one != two)
            self.assertTrue(one.twin() == two)

    def test_senders_and_ears_are_not_one_another(self):
        one, two = small_net(), small_net()
        one.line("o", ("a", "b"), ("g", "h"))
        two.line("o", ("g", "h"), ("a", "b"))
        self.assertFalse(one == two)

    def test_one_thing_otherwise(self):
        net = small_net()
        kind, wire, sender, ear, fewer = net.twin(), net.twin(), net.twin(), net.twin(), net.twin()
        kind.drop("k")
        kind.drop("h")
        kind.house("h")
        kind.line("k", ("h",), ("a", "g"))
        wire.drop("k")
        wire.line("k", ("h",), ("a", "g"), wire=2)
        sender.drop("k")
        sender.line("k", ("g",), ("a", "g"))
        ear.drop("k")
        ear.line("k", ("h",), ("a", "b"))
        fewer.drop("k")
        for other in (kind, wire, sender, ear, fewer):
            self.assertTrue(net != other)
            self.assertFalse(net == other)
            self.assertFalse(other == net)

    def test_a_net_equals_nothing_else(self):
        for other in ("", "a", 0, 1, None, [], {}, ()):
            self.assertFalse(Net() == other)
            self.assertTrue(Net() != other)
            self.assertFalse(other == Net())


if __name__ == "__main__":
    unittest.main()
