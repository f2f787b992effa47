"""A bench that runs a net by a timetable, moment by moment, with lines that are cut and nodes that are hushed."""

from slotwright.checks import check_number
from slotwright.errors import BadNumber, NoStep
from slotwright.net import check_node
from slotwright.tables import Table
from slotwright.wants import lines_of

FIRST_MOMENT = -30
LAST_MOMENT = 1200
MOST_EARLY = 30


class Bench:
    """A run of a net; a start is known by its (name, way, h), a sending by its (name, way, h, j)."""

    def __init__(self, net, frames, table, *, earls=None):
        self.earls = {} if earls is None else dict(earls)
        for node in self.earls:
            check_earls(self.earls[node])
        self.net = net.twin()
        self.tracks = tracks_of(net, frames, table)
        self.moment = FIRST_MOMENT
        # The moment of each sending that went out.
        self.outs = {}
        self.spoilt = {}
        # The sendings by lines that may still lie there, and those on last lines that have not come.
        self.lying = {}
        self.coming = []
        self.given = {}
        self.cut_since = {}
        # By lines the (first moment, moment of the mending) of each cut that is mended.
        self.cut_spans = {}
        self.hushed = {}

    def now(self):
        """The moment up to which the bench has run, it left out."""
        return self.moment

    def go(self, until):
        """Run on to the moment, and tell the (moment, name, j, way) of what is given up to it."""
        check_number(until, self.moment, LAST_MOMENT)
        # Two of one moment do not sway each other's going out: what goes out has come later.
        for moment, sending in self.due(until):
            if self.goes(sending, moment):
                self.send(sending, moment)
        self.moment = until
        return self.give()

    def sent(self):
        """The (moment, line, name, way, h, j, fate) of all that went out, in order."""
        return sorted([(self.outs[sending], self.tracks[sending[:3]][0], *sending, self.fate(sending))
                       for sending in self.outs])

    def cut(self, line):
        """Cut the line from now on."""
        self.net.ends(line)
        if line in self.cut_since:
            raise NoStep("the line is cut already")
        self.cut_since[line] = self.moment

    def mend(self, line):
        """Mend the line from now on."""
        self.net.ends(line)
        if line not in self.cut_since:
            raise NoStep("the line is not cut")
        since = self.cut_since[line]
        # Cut and mended at one moment, it was never cut.
        if since < self.moment:
            self.cut_spans[line] = self.cut_spans.get(line, []) + [(since, self.moment)]
        del self.cut_since[line]

    def hush(self, node):
        """Let the node send nothing from now on."""
        check_node(self.net, node)
        if node in self.hushed:
            raise NoStep("the node is hushed already")
        self.hushed[node] = True

    def wake(self, node):
        """Let the node send again from now on."""
        check_node(self.net, node)
        if node not in self.hushed:
            raise NoStep("the node is not hushed")
        del self.hushed[node]

    def twin(self):
        """A bench that stands alike and shares nothing with this one."""
        other = Bench(self.net, [], Table(), earls=self.earls)
        other.tracks = {place: self.tracks[place] for place in self.tracks}
        other.moment = self.moment
        other.outs = {sending: self.outs[sending] for sending in self.outs}
        other.spoilt = {sending: True for sending in self.spoilt}
        other.lying = {line: list(self.lying[line]) for line in self.lying}
        other.coming = list(self.coming)
        other.given = {going: True for going in self.given}
        other.cut_since = dict(self.cut_since)
        other.cut_spans = {line: list(self.cut_spans[line]) for line in self.cut_spans}
        other.hushed = dict(self.hushed)
        return other

    def due(self, until):
        """The (moment, sending) of all that is due to go out from now up to the moment, in order."""
        rows = []
        for place in self.tracks:
            rows += [(moment, (*place, j)) for moment, j in self.goings(place, until)]
        return sorted(rows)

    def goings(self, place, until):
        """The (moment, j) of each going of a start that is due to go out from now up to the moment."""
        line, node, start, every, long, wire = self.tracks[place]
        early = self.earls.get(node, (0,))
        # None goes out behind its moment in the timetable, nor more than the most ahead of it.
        first = max(0, (self.moment - start) // every)
        last = (until + MOST_EARLY - start) // every
        moments = [(start + j * every - early[j % len(early)], j) for j in range(first, last + 1)]
        return [(moment, j) for moment, j in moments if self.moment <= moment < until]

    def goes(self, sending, moment):
        """Whether the node is awake and has the frame: at its first line, or come whole by the line ahead."""
        name, at, h, j = sending
        if self.tracks[(name, at, h)][1] in self.hushed:
            return False
        ahead = (name, at, h - 1, j)
        return h == 0 or (ahead in self.outs and self.comes(ahead) <= moment and self.fate(ahead) == "whole")

    def send(self, sending, moment):
        """Let the sending go out; it and whatever lies on its line then are spoilt."""
        name, at, h, j = sending
        line = self.tracks[(name, at, h)][0]
        lying = [other for other in self.lying.get(line, []) if self.end(other) > moment]
        for other in lying:
            self.spoilt[other] = True
            self.spoilt[sending] = True
        self.lying[line] = lying + [sending]
        self.outs[sending] = moment
        if (name, at, h + 1) not in self.tracks:
            self.coming.append(sending)

    def end(self, sending):
        """The first moment at which the sending that went out lies on its line no longer."""
        return self.outs[sending] + self.tracks[sending[:3]][4]

    def comes(self, sending):
        """The moment at which the sending that went out comes, where it is whole."""
        return self.end(sending) + self.tracks[sending[:3]][5]

    def fate(self, sending):
        """What became of a sending that went out: "spoilt", "lost" or "whole"."""
        if sending in self.spoilt:
            return "spoilt"
        line = self.tracks[sending[:3]][0]
        out, end = self.outs[sending], self.end(sending)
        lost = any([since < end and out < mended for since, mended in self.cut_spans.get(line, [])])
        # A cut that is not mended has no end yet, and began no later than now.
        if lost or (line in self.cut_since and self.cut_since[line] < end):
            return "lost"
        return "whole"

    def give(self):
        """The (moment, name, j, way) of what has come to its goal ahead of now, each going of a frame once."""
        landed = [sending for sending in self.coming if self.comes(sending) < self.moment]
        self.coming = [sending for sending in self.coming if self.comes(sending) >= self.moment]
        whole = [sending for sending in landed if self.fate(sending) == "whole"]
        rows = []
        for moment, name, j, at in sorted([(self.comes(sending), sending[0], sending[3], sending[1])
                                           for sending in whole]):
            if (name, j) not in self.given:
                self.given[(name, j)] = True
                rows.append((moment, name, j, at))
        return rows


def tracks_of(net, frames, table):
    """By each start's (name, way, h) its line, node, moment, round, length and wire."""
    tracks = {}
    for frame in frames:
        for at, way in enumerate(frame.ways):
            for h, line in enumerate(lines_of(way)):
                start = table.of(frame.name, at)[h]
                tracks[(frame.name, at, h)] = (line, way[2 * h], start, frame.every, frame.long, net.ends(line)[2])
    return tracks


def check_earls(early):
    """Refuse earlinesses of a node that are none, or not all within their bounds."""
    if len(early) == 0:
        raise BadNumber("no earliness")
    for number in early:
        check_number(number, 0, MOST_EARLY)
