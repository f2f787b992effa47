"""What must hold of a lot's starts: their order, the firm wants, the windows, the pairs and their chances."""

from slotwright.checks import check_number
from slotwright.errors import BadWay, Full, Late, Taken, Tight
from slotwright.frames import lies
from slotwright.spans import common

MOST_SLACK = 30
MOST_FRAMES = 8


def by_name(frames):
    """The frames in the order of names."""
    return sorted(frames, key=lambda frame: frame.name)


def lines_of(way):
    """The lines of a way, between its houses and gates."""
    return way[1::2]


def order(frames):
    """The (name, way, h) of each start by numbers, that of number 1 first."""
    return [(frame.name, at, h) for frame in by_name(frames)
            for at, way in enumerate(frame.ways) for h in range(len(lines_of(way)))]


def judge_lot(net, frames, *, slack=0):
    """Refuse a lot that cannot be one for the net and the slack."""
    check_number(slack, 0, MOST_SLACK)
    if len(frames) > MOST_FRAMES:
        raise Full("more than eight frames")
    rows = by_name(frames)
    for one, two in zip(rows, rows[1:]):
        if one.name == two.name:
            raise Taken(one.name)
    for frame in rows:
        judge_frame(net, frame, slack)


def judge_frame(net, frame, slack):
    """Refuse a frame that does not lie in the net, or has too little time in its round or in all."""
    if not all([lies(net, way) for way in frame.ways]):
        raise BadWay(f"a way of {frame.name} does not lie in the net")
    if frame.long + slack > frame.every:
        raise Tight(frame.name)
    slower = max([sum(line_times(net, frame, way, slack)) for way in frame.ways])
    if frame.last < slower:
        raise Late(frame.name, slower)


def line_times(net, frame, way, slack):
    """What each line of the way takes at the least, however early and late the frame goes."""
    return [frame.long + net.ends(line)[2] + slack for line in lines_of(way)]


def each_way(net, frames, slack):
    """In the order of starts each way's (frame, way, number of its first start, times of its lines)."""
    rows = []
    first = 1
    for frame in by_name(frames):
        for at, way in enumerate(frame.ways):
            times = line_times(net, frame, way, slack)
            rows.append((frame, at, first, times))
            first += len(times)
    return rows


def starts_by_way(rows):
    """The starts of a timetable's rows by (name, way)."""
    return {(name, at): starts for name, at, starts in rows}


def firm(net, frames, *, slack=0, kept=()):
    """The wants that hold whatever cases are taken."""
    judge_lot(net, frames, slack=slack)
    fixed = starts_by_way(kept)
    wants = []
    for frame, at, first, times in each_way(net, frames, slack):
        wants += way_wants(frame, first, times)
        wants += kept_wants(first, fixed.get((frame.name, at), ()))
    return wants


def way_wants(frame, first, times):
    """The wants of one way: from the release, from line to line, and up to the last time."""
    latest = frame.release + frame.last - times[-1]
    ahead = [(0, first, frame.release)]
    between = [(first + h, first + h + 1, time) for h, time in enumerate(times[:-1])]
    return ahead + between + [(first + len(times) - 1, 0, -latest)]


def kept_wants(first, starts):
    """The wants that fix the starts of one way."""
    wants = []
    for i, start in enumerate(starts, start=first):
        wants += [(0, i, start), (i, 0, -start)]
    return wants


def windows(net, frames, *, slack=0, kept=()):
    """The (least, most) of each start from number 1 on."""
    judge_lot(net, frames, slack=slack)
    fixed = starts_by_way(kept)
    rows = []
    for frame, at, first, times in each_way(net, frames, slack):
        if (frame.name, at) in fixed:
            rows += [(start, start) for start in fixed[(frame.name, at)]]
        else:
            rows += way_windows(frame, times)
    return rows


def way_windows(frame, times):
    """The window of each start of one way: what is ahead of it has its time, and so has what is behind it."""
    end = frame.release + frame.last
    return [(frame.release + sum(times[:h]), end - sum(times[h:])) for h in range(len(times))]


def pairs(net, frames, *, slack=0):
    """The rows (i, j, g, a, b) of two starts on one line."""
    judge_lot(net, frames, slack=slack)
    sendings = [(line, frame.every, frame.long + slack) for frame in by_name(frames)
                for way in frame.ways for line in lines_of(way)]
    rows = []
    for i, (line, every, long) in enumerate(sendings, start=1):
        for j, (other_line, other_every, other_long) in enumerate(sendings, start=1):
            if i < j and line == other_line:
                rows.append((i, j, common(every, other_every), long, other_long))
    return rows


def chances(net, frames, *, slack=0, kept=()):
    """The (low, many) of each pair."""
    spans = windows(net, frames, slack=slack, kept=kept)
    return [pair_chances(pair, spans[pair[0] - 1], spans[pair[1] - 1])
            for pair in pairs(net, frames, slack=slack)]


def pair_chances(pair, window, other):
    """The numbers that keep two starts apart somewhere in their windows, as (low, many)."""
    i, j, g, a, b = pair
    # The second start less the first is every number from the one to the other.
    nearest = other[0] - window[1]
    farthest = other[1] - window[0]
    low = -((-nearest - b) // g) - 1
    many = (farthest - a) // g - low + 1
    # Where both lengths are more than the common part, no distance at all is left between them.
    if a + b > g or many < 1:
        return 0, 0
    return low, many


def case_wants(pair, case):
    """The two wants by which the case keeps the pair apart."""
    i, j, g, a, b = pair
    return [(i, j, case * g + a), (j, i, b - (case + 1) * g)]


def measure(chances):
    """How many steps there are at the most in going through all cases."""
    steps = 1
    rows = 1
    for low, many in chances:
        rows *= max(many, 1)
        steps += rows
    return steps
