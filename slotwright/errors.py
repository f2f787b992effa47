"""The refusals of the whole program: one class for each kind, none beneath another."""


class NetError(ValueError):
    """Any refusal."""


class BadName(NetError):
    """A text that is no name."""


class BadNumber(NetError):
    """A number outside its bounds, or True or False where a number is looked at."""


class BadWay(NetError):
    """A way that is none, ways that do not go together, or a way that does not lie in its net."""


class BadEnds(NetError):
    """Senders or ears of a line: none, too many, or one twice."""


class BadLine(NetError):
    """A text that is not of the form in which it is read."""


class Taken(NetError):
    """A name that is there already."""

    def __init__(self, name):
        super().__init__(f"the name {name} is there already")
        self.name = name


class NoName(NetError):
    """A name that is not there, or is none of the kind that is asked for."""

    def __init__(self, name):
        super().__init__(f"there is no such name: {name}")
        self.name = name


class InUse(NetError):
    """What is to be dropped is used by the named line or frame."""

    def __init__(self, name):
        super().__init__(f"it is in use by {name}")
        self.name = name


class Full(NetError):
    """There is no place for one more."""


class Tight(NetError):
    """A frame that is too long for its round."""

    def __init__(self, name):
        super().__init__(f"the frame {name} is too long for its round")
        self.name = name


class Late(NetError):
    """A frame whose last time is less than the least that its slower way takes."""

    def __init__(self, name, least):
        super().__init__(f"the frame {name} cannot come within its last time")
        self.name = name
        self.least = least


class Heavy(NetError):
    """A lot with more cases than may be gone through."""

    def __init__(self, cases):
        super().__init__("there are too many cases")
        self.cases = cases


class NoPlan(NetError):
    """A lot without a timetable, with the names of its least lot."""

    def __init__(self, lot):
        super().__init__("there is no timetable")
        # The asker may change the list without changing that of whoever refused.
        self.lot = list(lot)


class NoRoom(NetError):
    """One more frame has no room."""


class NoStep(NetError):
    """A step that cannot be done as things stand."""


class TooFew(NetError):
    """Too few numbers or too few good clocks."""


class BadPage(NetError):
    """A text that is no page of a hall."""
