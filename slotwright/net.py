"""Nets: houses, gates, and the lines between them."""

from slotwright.checks import check_name, check_number
from slotwright.errors import BadEnds, Full, InUse, NoName, Taken

MOST_NODES = 16
MOST_LINES = 16
MOST_ENDS = 6
MOST_WIRE = 30


class Net:
    """Houses, gates and lines by their names; each name is one thing."""

    def __init__(self):
        # Every name's kind; the lines' ends stand in a dict of their own.
        self.kinds = {}
        self.lines = {}

    def house(self, name):
        """Put in a house."""
        self.put_node(name, "house")

    def gate(self, name):
        """Put in a gate."""
        self.put_node(name, "gate")

    def line(self, name, senders, ears, *, wire=1):
        """Put in a line, of tuples of names of houses and gates."""
        self.check_new(name)
        if len(self.lines) >= MOST_LINES:
            raise Full("there is no place for one more line")
        check_ends(senders)
        check_ends(ears)
        self.check_nodes(senders)
        self.check_nodes(ears)
        check_number(wire, 0, MOST_WIRE)
        self.kinds[name] = "line"
        self.lines[name] = (tuple(sorted(senders)), tuple(sorted(ears)), wire)

    def drop(self, name):
        """Take out a line, or a house or gate that stands at no line."""
        if self.kind(name) == "line":
            del self.lines[name]
        else:
            self.check_unused(name)
        del self.kinds[name]

    def names(self):
        """All names in order."""
        return sorted(self.kinds)

    def kind(self, name):
        """What the name is: "house", "gate" or "line"."""
        if name not in self.kinds:
            raise NoName(name)
        return self.kinds[name]

    def ends(self, name):
        """The senders and the ears of a line, each in the order of names, and its wire."""
        if name not in self.lines:
            raise NoName(name)
        return self.lines[name]

    def twin(self):
        """An equal net that shares nothing with this one."""
        other = Net()
        other.kinds = dict(self.kinds)
        other.lines = dict(self.lines)
        return other

    def __len__(self):
        return len(self.kinds)

    def __eq__(self, other):
        return isinstance(other, Net) and self.kinds == other.kinds and self.lines == other.lines

    def put_node(self, name, kind):
        """Put in a house or a gate."""
        self.check_new(name)
        if len(self.kinds) - len(self.lines) >= MOST_NODES:
            raise Full("there is no place for one more house or gate")
        self.kinds[name] = kind

    def check_new(self, name):
        """Refuse a text that is no name, and a name that is there."""
        check_name(name)
        if name in self.kinds:
            raise Taken(name)

    def check_nodes(self, ends):
        """Refuse the first text that is no house or gate of this net."""
        for text in ends:
            if text not in self.kinds or text in self.lines:
                raise NoName(text)

    def check_unused(self, node):
        """Refuse a house or gate that stands at a line."""
        for name in sorted(self.lines):
            senders, ears, wire = self.lines[name]
            if node in senders or node in ears:
                raise InUse(name)


def check_ends(ends):
    """Refuse senders or ears of no name, of too many, or with one twice."""
    if not 1 <= len(ends) <= MOST_ENDS:
        raise BadEnds("not one to six names")
    if len(set(ends)) < len(ends):
        raise BadEnds("a name twice")


def check_node(net, name):
    """Refuse a name that is no house or gate of the net."""
    if net.kind(name) == "line":
        raise NoName(name)
