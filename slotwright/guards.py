"""What is masked of a cut line and of a silent or babbling node, and the pause of a change of timetable."""

from slotwright.net import check_node
from slotwright.spans import COMMON
from slotwright.wants import by_name, lines_of


def masked_cut(net, frames, line):
    """The names of the frames that come though the line is cut."""
    # A name that is no line has no ends, and is refused.
    net.ends(line)
    return names_free_of(frames, [line])


def masked_silent(net, frames, node):
    """The names of the frames that come though the node sends nothing."""
    check_node(net, node)
    # The last name of a way sends nothing by it.
    return [frame.name for frame in by_name(frames) if any([node not in way[:-1:2] for way in frame.ways])]


def masked_babble(net, frames, node):
    """The names of the frames that come though the node keeps all lines busy whose sender it may be."""
    check_node(net, node)
    lines = [name for name in net.names() if net.kind(name) == "line"]
    return names_free_of(frames, [line for line in lines if node in net.ends(line)[0]])


def names_free_of(frames, lines):
    """The names of the frames with a way that has none of these lines."""
    return [frame.name for frame in by_name(frames)
            if any([not any([line in lines for line in lines_of(way)]) for way in frame.ways])]


def pause(net, old, old_table, new, new_table, *, slack=0):
    """How far behind the common round the new timetable begins, at the least, so that it meets nothing of the old."""
    ends = last_ends(old, old_table)
    begins = first_begins(new, new_table, slack)
    return max([0] + [ends[line] - COMMON - begins[line] for line in ends if line in begins])


def last_ends(frames, table):
    """By each line the moment from which nothing of this timetable lies there, however late it went out."""
    ends = {}
    for frame in frames:
        # The last going whose release is within the common round.
        j = (COMMON - 1 - frame.release) // frame.every
        for line, start in line_starts(frame, table):
            ends[line] = max(ends.get(line, 0), start + j * frame.every + frame.long)
    return ends


def first_begins(frames, table, slack):
    """By each line the first moment at which something of this timetable may lie there, however early it went out."""
    begins = {}
    for frame in frames:
        for line, start in line_starts(frame, table):
            begins[line] = min(begins.get(line, start - slack), start - slack)
    return begins


def line_starts(frame, table):
    """Each line of the frame's ways with the frame's start there."""
    rows = []
    for at, way in enumerate(frame.ways):
        rows += list(zip(lines_of(way), table.of(frame.name, at)))
    return rows
