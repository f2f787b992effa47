"""A hall: a net, a lot, a right timetable of it and a slack, kept deed by deed."""

from slotwright.checks import check_number
from slotwright.errors import InUse, NoName, NoPlan, NoRoom, NoStep
from slotwright.lots import least_lot, plan, without
from slotwright.moves import fewest, squeeze
from slotwright.net import Net
from slotwright.tables import Table
from slotwright.wants import MOST_SLACK, by_name


class Hall:
    """What stands is a tuple (net, frames, table, slack); none of these is changed once it stands."""

    def __init__(self, *, slack=0):
        check_number(slack, 0, MOST_SLACK)
        self.tried = 0
        self.standing = (Net(), [], Table(), slack)
        # What stood ahead of each deed that stands, and what stood behind each one that was taken back, last ones last.
        self.past = []
        self.undone = []

    def house(self, name):
        """Put a house into the net."""
        self.tried += 1
        net = self.net_now()
        net.house(name)
        self.stand_on(net)

    def gate(self, name):
        """Put a gate into the net."""
        self.tried += 1
        net = self.net_now()
        net.gate(name)
        self.stand_on(net)

    def line(self, name, senders, ears, *, wire=1):
        """Put a line into the net."""
        self.tried += 1
        net = self.net_now()
        net.line(name, senders, ears, wire=wire)
        self.stand_on(net)

    def drop(self, name):
        """Take out of the net what no line stands at and no frame goes by."""
        self.tried += 1
        net = self.net_now()
        net.drop(name)
        for frame in self.frames_now():
            if any([name in way for way in frame.ways]):
                raise InUse(frame.name)
        self.stand_on(net)

    def put(self, frame):
        """Plan all anew with one more frame."""
        self.tried += 1
        net, frames, table, slack = self.standing
        lot = [*frames, frame]
        self.stand(net, lot, planned(net, lot, slack), slack)

    def squeeze(self, frame):
        """Put one more frame in where the others keep their starts."""
        self.tried += 1
        net, frames, table, slack = self.standing
        found, rows = squeeze(net, frames, table, frame, slack=slack)
        if found is None:
            raise NoRoom("the frame has no room between the others")
        self.stand(net, [*frames, frame], found, slack)

    def nudge(self, frame):
        """Put one more frame in and move the fewest others."""
        self.tried += 1
        net, frames, table, slack = self.standing
        found = fewest(net, frames, table, frame, slack=slack)
        if found is None:
            raise NoRoom("there is no timetable with the frame")
        names, changed = found
        self.stand(net, [*frames, frame], changed, slack)

    def take(self, name):
        """Drop a frame; the others stay where they are."""
        self.tried += 1
        net, frames, table, slack = self.standing
        if name not in [frame.name for frame in frames]:
            raise NoName(name)
        rest = Table([row for row in table.told() if row[0] != name])
        self.stand(net, without(frames, name), rest, slack)

    def slacken(self, slack):
        """Set the slack and plan all anew."""
        self.tried += 1
        net, frames, table, old_slack = self.standing
        self.stand(net, frames, planned(net, frames, slack), slack)

    def replan(self):
        """Plan all anew."""
        self.tried += 1
        net, frames, table, slack = self.standing
        self.stand(net, frames, planned(net, frames, slack), slack)

    def undo(self):
        """Take back the last deed that stands."""
        if len(self.past) == 0:
            raise NoStep("no deed stands")
        self.undone.append(self.standing)
        self.standing = self.past.pop()

    def redo(self):
        """Do the deed again that was taken back last."""
        if len(self.undone) == 0:
            raise NoStep("no deed was taken back")
        self.past.append(self.standing)
        self.standing = self.undone.pop()

    def twin(self):
        """A hall that stands alike, with its history, and shares nothing with this one."""
        other = Hall()
        other.tried = self.tried
        other.standing = self.standing
        other.past = list(self.past)
        other.undone = list(self.undone)
        return other

    def net_now(self):
        """The net, the asker's own."""
        return self.standing[0].twin()

    def frames_now(self):
        """The frames in the order of names."""
        return list(self.standing[1])

    def table_now(self):
        """The timetable, the asker's own."""
        return Table(self.standing[2].told())

    def slack_now(self):
        """The slack."""
        return self.standing[3]

    def moved(self):
        """The names of the frames that the last deed that stands has moved."""
        if len(self.past) == 0:
            return []
        ahead = rows_by_name(self.past[-1])
        behind = rows_by_name(self.standing)
        return [name for name in behind if name in ahead and ahead[name] != behind[name]]

    def stand(self, net, frames, table, slack):
        """Let a deed stand: what it leads to, and what stood ahead of it."""
        self.past.append(self.standing)
        self.standing = (net, by_name(frames), table, slack)
        self.undone = []

    def stand_on(self, net):
        """Let a deed stand that changed the net alone."""
        old_net, frames, table, slack = self.standing
        self.stand(net, frames, table, slack)


def hall_of(net, frames, table, slack):
    """A hall without history in which these stand."""
    hall = Hall(slack=slack)
    hall.standing = (net.twin(), by_name(frames), table, slack)
    return hall


def planned(net, frames, slack):
    """The timetable of the lot; where there is none, it is refused."""
    table = plan(net, frames, slack=slack)
    if table is None:
        names, leaves, others = least_lot(net, frames, slack=slack)
        raise NoPlan(names)
    return table


def rows_by_name(standing):
    """The timetable's rows of each frame by its name, in the order of names."""
    net, frames, table, slack = standing
    return {frame.name: [row for row in table.told() if row[0] == frame.name] for frame in frames}
