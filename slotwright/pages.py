"""Pages: a hall written row by row, and read again."""

from slotwright.checks import read_number
from slotwright.errors import BadLine, BadPage, NetError
from slotwright.frames import read_frame
from slotwright.hall import hall_of
from slotwright.net import Net
from slotwright.tables import Table, faults
from slotwright.wants import order

ROW_KINDS = ("slack", "house", "gate", "line", "frame", "turn")


def page(hall):
    """The page of the hall."""
    net = hall.net_now()
    rows = [f"slack {hall.slack_now()}"]
    for kind in ("house", "gate"):
        rows += [f"{kind} {name}" for name in names_of(net, kind)]
    rows += [line_text(net, name) for name in names_of(net, "line")]
    rows += ["frame " + str(frame) for frame in hall.frames_now()]
    rows += [row_text(row) for row in hall.table_now().told()]
    return "\n".join(rows)


def names_of(net, kind):
    """The names of one kind in the net, in order."""
    return [name for name in net.names() if net.kind(name) == kind]


def line_text(net, name):
    """The row of a line."""
    senders, ears, wire = net.ends(name)
    return " ".join(["line", name, "wire", str(wire), "from", ",".join(senders), "to", ",".join(ears)])


def row_text(row):
    """The row of a timetable's row."""
    name, at, starts = row
    return " ".join(["turn", name, str(at), ",".join([str(start) for start in starts])])


def read_page(text):
    """The hall whose page the text is."""
    try:
        hall = hall_of_rows(text.split("\n"))
    except NetError:
        raise BadPage("not a page of a hall") from None
    # Rows in another order, or told otherwise than a page tells them, make a hall with another page.
    if page(hall) != text:
        raise BadPage("not as a page is written")
    return hall


def hall_of_rows(rows):
    """The hall that the rows tell, in whatever order they stand."""
    rests = rests_by_kind(rows)
    if len(rests["slack"]) != 1:
        raise BadPage("not one slack")
    slack = read_number(rests["slack"][0])
    net = net_of_rests(rests)
    frames = [read_frame(rest) for rest in rests["frame"]]
    table = Table([read_turn(rest) for rest in rests["turn"]])
    check_right(net, frames, table, slack)
    return hall_of(net, frames, table, slack)


def rests_by_kind(rows):
    """What stands in the rows behind their first words, by these words."""
    rests = {kind: [] for kind in ROW_KINDS}
    for row in rows:
        kind, blank, rest = row.partition(" ")
        if kind not in rests:
            raise BadPage("a row of no kind")
        rests[kind].append(rest)
    return rests


def net_of_rests(rests):
    """The net that the rows tell."""
    net = Net()
    for name in rests["house"]:
        net.house(name)
    for name in rests["gate"]:
        net.gate(name)
    for rest in rests["line"]:
        name, senders, ears, wire = read_line(rest)
        net.line(name, senders, ears, wire=wire)
    return net


def read_line(text):
    """The name, senders, ears and wire of `NAME wire N from NAME,.. to NAME,..`; which texts are names is not asked."""
    words = text.split(" ")
    if len(words) != 7 or words[1::2] != ["wire", "from", "to"] or "" in words:
        raise BadLine("not the words of a line")
    return words[0], tuple(words[4].split(",")), tuple(words[6].split(",")), read_number(words[2])


def read_turn(text):
    """The row of a timetable that `NAME WAY N,..` tells."""
    words = text.split(" ")
    if len(words) != 3:
        raise BadLine("not the words of a row of a timetable")
    return words[0], read_number(words[1]), tuple([read_number(part) for part in words[2].split(",")])


def check_right(net, frames, table, slack):
    """Refuse a timetable that is not right or has other rows than the lot's ways."""
    places = [(name, at, h) for name, at, starts in table.told() for h in range(len(starts))]
    if places != order(frames):
        raise BadPage("not the rows of the lot's ways")
    if len(faults(net, frames, table, slack=slack)) > 0:
        raise BadPage("a timetable that is not right")
