"""One more frame beside a right timetable: squeezed in between what is kept, or with the fewest frames moved."""

from slotwright.cases import settle
from slotwright.spans import HEAVY, apart
from slotwright.tables import Table, table_of
from slotwright.wants import by_name, judge_lot, line_times, lines_of, way_windows


def squeeze(net, frames, table, frame, *, slack=0):
    """The timetable with the frame's first free starts, or None; and a row for each moment passed over."""
    judge_lot(net, [*frames, frame], slack=slack)
    kept = kept_sendings(frames, table)
    found = []
    rows = []
    for at, way in enumerate(frame.ways):
        starts, passed = squeeze_way(frame, way, line_times(net, frame, way, slack), kept, slack)
        rows += [(at, *row) for row in passed]
        if starts is None:
            return None, rows
        found.append((frame.name, at, starts))
    return Table(table.told() + found), rows


def kept_sendings(frames, table):
    """In the order of starts each one's line, its (name, way, h) and its (start, round, length)."""
    return [(line, (frame.name, at, h), (table.of(frame.name, at)[h], frame.every, frame.long))
            for frame in by_name(frames) for at, way in enumerate(frame.ways)
            for h, line in enumerate(lines_of(way))]


def squeeze_way(frame, way, times, kept, slack):
    """The first free starts of one way, or None; and (h, moment, name, way, h) of each moment passed over."""
    starts = ()
    rows = []
    moment = frame.release
    spans = way_windows(frame, times)
    for h, line in enumerate(lines_of(way)):
        held = [(place, sending) for other, place, sending in kept if other == line]
        # Where the moment passes the window's most, it has been passed over up to there.
        while moment <= spans[h][1]:
            place = first_met(held, (moment, frame.every, frame.long), slack)
            if place is None:
                break
            rows.append((h, moment, *place))
            moment += 1
        else:
            return None, rows
        starts += (moment,)
        moment += times[h]
    return starts, rows


def first_met(held, sending, slack):
    """The (name, way, h) of the first kept sending from which this one is not apart, or None."""
    for place, other in held:
        if not apart(other, sending, slack=slack):
            return place
    return None


def fewest(net, frames, table, frame, *, slack=0, most=HEAVY):
    """None, or the names of the fewest frames that must move and the timetable in which they have."""
    lot = [*frames, frame]
    # Nothing kept goes first: it tells whether the lot is too heavy, and whether there is a timetable at all.
    all_moved, leaves = settle(net, lot, slack=slack, most=most)
    if all_moved is None:
        return None
    names = sorted([held.name for held in frames])
    for size in range(len(names)):
        for chosen in choices(names, size):
            kept = tuple([row for row in table.told() if row[0] not in chosen])
            starts, leaves = settle(net, lot, slack=slack, kept=kept, most=most)
            if starts is not None:
                return chosen, table_of(lot, starts)
    return names, table_of(lot, all_moved)


def choices(names, size):
    """All lists of so many of the names, in the order of the lists."""
    if size == 0:
        return [[]]
    return [[name, *rest] for at, name in enumerate(names) for rest in choices(names[at + 1:], size - 1)]
