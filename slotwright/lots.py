"""Lots of frames: the timetable of one, or a least lot within it that has none."""

from slotwright.cases import settle
from slotwright.spans import HEAVY
from slotwright.tables import table_of
from slotwright.wants import by_name


def plan(net, frames, *, slack=0, most=HEAVY):
    """The timetable of the lot, or None."""
    starts, leaves = settle(net, frames, slack=slack, most=most)
    if starts is None:
        return None
    return table_of(frames, starts)


def least_lot(net, frames, *, slack=0, most=HEAVY):
    """None, or a least lot without a timetable: its names, its leaves and the timetables of all but each one."""
    starts, leaves = settle(net, frames, slack=slack, most=most)
    if starts is not None:
        return None
    lot = by_name(frames)
    for frame in by_name(frames):
        rest = without(lot, frame.name)
        starts, rest_leaves = settle(net, rest, slack=slack, most=most)
        if starts is None:
            lot, leaves = rest, rest_leaves
    others = [(frame.name, plan(net, without(lot, frame.name), slack=slack, most=most)) for frame in lot]
    return [frame.name for frame in lot], leaves, others


def without(frames, name):
    """The frames but the one of that name."""
    return [frame for frame in frames if frame.name != name]
