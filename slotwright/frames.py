"""Frames: what goes by which ways in which round, and the text of a frame."""

from slotwright.checks import check_name, check_number, is_name, read_number
from slotwright.errors import BadLine, BadNumber, BadWay
from slotwright.spans import LAST, ROUNDS

MOST_LONG = 30
WAY_LENGTHS = (3, 5, 7)
FIELD_WORDS = ("every", "long", "release", "last", "by")


class Frame:
    """A frame; nobody changes its fields."""

    def __init__(self, name, ways, *, every, long=1, release=0, last=LAST):
        check_name(name)
        check_ways(ways)
        # True and False are no rounds either: neither 1 nor 0 is one.
        if every not in ROUNDS:
            raise BadNumber("not a round")
        check_number(long, 1, MOST_LONG)
        check_number(release, 0, every - 1)
        check_number(last, 1, LAST)
        self.name = name
        self.ways = ways
        self.every = every
        self.long = long
        self.release = release
        self.last = last

    def __str__(self):
        return " ".join(frame_words(self))

    def __eq__(self, other):
        return (isinstance(other, Frame) and self.name == other.name and self.ways == other.ways
                and self.every == other.every and self.long == other.long
                and self.release == other.release and self.last == other.last)


def check_ways(ways):
    """Refuse what is not one way, or two that share their ends alone."""
    if len(ways) not in (1, 2):
        raise BadWay("not one or two ways")
    for way in ways:
        check_way(way)
    if len(ways) == 2:
        check_both_ways(ways[0], ways[1])


def check_way(way):
    """Refuse a way of another length, with a text that is no name, or with a name twice."""
    if len(way) not in WAY_LENGTHS:
        raise BadWay("not three, five or seven names")
    if not all([is_name(text) for text in way]):
        raise BadWay("a text that is no name")
    if len(set(way)) < len(way):
        raise BadWay("a name twice")


def check_both_ways(one, two):
    """Refuse two ways that differ in an end or share a name between their ends."""
    if one[0] != two[0] or one[-1] != two[-1]:
        raise BadWay("two ways with different ends")
    if any([name in two for name in one[1:-1]]):
        raise BadWay("a name in both ways")


def frame_words(frame):
    """The words of a frame's text, between which the blanks stand."""
    ways = "/".join([".".join(way) for way in frame.ways])
    values = [str(frame.every), str(frame.long), str(frame.release), str(frame.last), ways]
    words = [frame.name]
    for word, value in zip(FIELD_WORDS, values):
        words += [word, value]
    return words


def read_frame(text):
    """The frame that the text tells."""
    words = text.split(" ")
    # One more than two for each field: the name stands ahead of them.
    if len(words) != 2 * len(FIELD_WORDS) + 1 or tuple(words[1::2]) != FIELD_WORDS:
        raise BadLine("not the words of a frame")
    if words[0] == "":
        raise BadLine("no name")
    every, long, release, last = [read_number(word) for word in words[2:-1:2]]
    ways = read_ways(words[-1])
    return Frame(words[0], ways, every=every, long=long, release=release, last=last)


def read_ways(text):
    """The tuple of one or two ways that the text tells; which texts are names is not asked here."""
    parts = text.split("/")
    if len(parts) > 2 or "" in parts:
        raise BadLine("not one or two ways of a sign at least")
    return tuple([tuple(part.split(".")) for part in parts])


def lies(net, way):
    """Whether the way's names are of the right kinds in the net and its lines join them."""
    kinds = {name: net.kind(name) for name in net.names()}
    between = ["line", "gate"] * ((len(way) - 3) // 2)
    wanted = ["house"] + between + ["line", "house"]
    if [kinds.get(name, "") for name in way] != wanted:
        return False
    return all([joins(net, way, at) for at in range(1, len(way), 2)])


def joins(net, way, at):
    """Whether the line at that place goes from the name ahead of it to the one behind it."""
    senders, ears, wire = net.ends(way[at])
    return way[at - 1] in senders and way[at + 1] in ears
