"""The desk of a hall: a line does a deed or asks for something, and is answered by a text."""

from slotwright.checks import read_number
from slotwright.errors import BadLine, NoName
from slotwright.frames import read_frame
from slotwright.pages import page, read_line, row_text


def read_word(text):
    """The text, of one sign at least and without a blank; whether it is a name is not asked."""
    if text == "" or " " in text:
        raise BadLine("not one word")
    return text


def do_house(hall, rest):
    """Put in a house."""
    hall.house(read_word(rest))


def do_gate(hall, rest):
    """Put in a gate."""
    hall.gate(read_word(rest))


def do_line(hall, rest):
    """Put in a line."""
    name, senders, ears, wire = read_line(rest)
    hall.line(name, senders, ears, wire=wire)


def do_drop(hall, rest):
    """Take out a name of the net."""
    hall.drop(read_word(rest))


def do_put(hall, rest):
    """Put a frame in and plan all anew."""
    hall.put(read_frame(rest))


def do_squeeze(hall, rest):
    """Put a frame in between the others."""
    hall.squeeze(read_frame(rest))


def do_nudge(hall, rest):
    """Put a frame in and move the fewest others."""
    hall.nudge(read_frame(rest))


def do_take(hall, rest):
    """Drop a frame."""
    hall.take(read_word(rest))


def do_slack(hall, rest):
    """Set the slack."""
    hall.slacken(read_number(rest))


def do_replan(hall):
    """Plan all anew."""
    hall.replan()


def do_undo(hall):
    """Take back the last deed."""
    hall.undo()


def do_redo(hall):
    """Do again what was taken back."""
    hall.redo()


DEEDS_ALONE = {"replan": do_replan, "undo": do_undo, "redo": do_redo}
DEEDS_WITH_REST = {
    "house": do_house, "gate": do_gate, "line": do_line, "drop": do_drop, "put": do_put, "squeeze": do_squeeze,
    "nudge": do_nudge, "take": do_take, "slack": do_slack,
}


def say(hall, line):
    """Do what the line says, and tell the answer."""
    word, blank, rest = line.partition(" ")
    if line == "page":
        return page(hall)
    if word == "of":
        return rows_of(hall, read_word(rest))
    if line in DEEDS_ALONE:
        deed = DEEDS_ALONE[line]
        deed(hall)
    elif word in DEEDS_WITH_REST:
        deed_with_rest = DEEDS_WITH_REST[word]
        deed_with_rest(hall, rest)
    else:
        raise BadLine("a line of no kind")
    return "done"


def rows_of(hall, name):
    """The frame's rows of the timetable."""
    rows = [row_text(row) for row in hall.table_now().told() if row[0] == name]
    # Each frame has a way at least, and so a row.
    if len(rows) == 0:
        raise NoName(name)
    return "\n".join(rows)
