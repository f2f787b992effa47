"""Timetables: their rows, what is wrong with one, the turns of a node and the worst coming of a frame."""

from slotwright.errors import NoName
from slotwright.net import check_node
from slotwright.spans import COMMON, meet
from slotwright.wants import each_way, judge_lot, order, pairs, starts_by_way


class Table:
    """Rows (name, way, starts), which nobody changes."""

    def __init__(self, rows=()):
        self.rows = sorted(rows)

    def told(self):
        """The list of rows in the order of names and ways."""
        return list(self.rows)

    def of(self, name, way=0):
        """The starts of a frame's way."""
        held = starts_by_way(self.rows)
        if (name, way) not in held:
            raise NoName(name)
        return held[(name, way)]

    def __len__(self):
        return len(self.rows)

    def __eq__(self, other):
        return isinstance(other, Table) and self.rows == other.rows


def table_of(frames, starts):
    """The timetable of starts by numbers from 1."""
    held = {}
    for (name, at, h), start in zip(order(frames), starts):
        held[(name, at)] = held.get((name, at), ()) + (start,)
    return Table([(name, at, held[(name, at)]) for name, at in held])


def faults(net, frames, table, *, slack=0):
    """What is wrong with the timetable, in order."""
    judge_lot(net, frames, slack=slack)
    held = starts_by_way(table.told())
    rows = []
    for frame, at, first, times in each_way(net, frames, slack):
        if (frame.name, at) in held:
            rows += way_faults(frame, at, times, held[(frame.name, at)])
        else:
            rows.append(("none", frame.name, at))
    return rows + meetings(net, frames, held, slack)


def way_faults(frame, at, times, starts):
    """What is wrong with the starts of one way."""
    rows = []
    if starts[0] < frame.release:
        rows.append(("early", frame.name, at))
    for h in range(len(starts) - 1):
        if starts[h + 1] < starts[h] + times[h]:
            rows.append(("hurry", frame.name, at, h))
    if starts[-1] + times[-1] > frame.release + frame.last:
        rows.append(("late", frame.name, at))
    return rows


def meetings(net, frames, held, slack):
    """The pairs of starts with rows that are not apart, with the goings that meet."""
    places = order(frames)
    named = {frame.name: frame for frame in frames}
    rows = []
    for i, j, g, a, b in pairs(net, frames, slack=slack):
        one, other = places[i - 1], places[j - 1]
        if one[:2] in held and other[:2] in held:
            met = meet(sending(named, held, one), sending(named, held, other), slack=slack)
            if met is not None:
                rows.append(("meet", one, other, met[0], met[1]))
    return rows


def sending(named, held, place):
    """The (start, round, length) of a start by its (name, way, h)."""
    name, at, h = place
    return held[(name, at)][h], named[name].every, named[name].long


def turns(net, frames, table, node):
    """The turns of a house or gate in the common round."""
    check_node(net, node)
    rows = []
    for frame in frames:
        for at, way in enumerate(frame.ways):
            # The last name of a way sends nothing by it.
            if node in way[:-1:2]:
                h = way.index(node) // 2
                rows += start_turns(frame, at, h, table.of(frame.name, at)[h])
    return sorted(rows)


def start_turns(frame, at, h, start):
    """The turns of one start."""
    line = frame.ways[at][2 * h + 1]
    return [((start + j * frame.every) % COMMON, line, frame.name, at, h, j)
            for j in range(COMMON // frame.every)]


def worst(net, frame, table, *, slack=0):
    """How long behind its release the frame has come at the most, and by which way."""
    comings = []
    for at, way in enumerate(frame.ways):
        last = table.of(frame.name, at)[-1]
        wire = net.ends(way[-2])[2]
        comings.append((last - frame.release + frame.long + wire + slack, at))
    return min(comings)
