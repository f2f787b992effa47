"""Clocks that stay together by the middle of what they hear, though one of them may have fallen."""

from slotwright.checks import check_number, check_whole
from slotwright.errors import BadNumber, NoStep, TooFew

LEAST_NUMBERS = 3
LEAST_CLOCKS = 4
MOST_CLOCKS = 7
MOST_ERR = 1000


def middle(numbers):
    """Half the sum of the least and the greatest that are left without one least and one greatest number."""
    if len(numbers) < LEAST_NUMBERS:
        raise TooFew("fewer than three numbers")
    for number in numbers:
        check_whole(number)
    left = sorted(numbers)[1:-1]
    return (left[0] + left[-1]) // 2


def slack_of(err, gain):
    """How far apart good clocks may stand."""
    check_whole(err)
    check_whole(gain)
    return 2 * err + 2 * gain


class Clocks:
    """Four to seven clocks, at most one of which is fallen or listens; the others are good."""

    def __init__(self, stands, *, err=0, gain=0):
        check_count(stands)
        check_number(err, 0, MOST_ERR)
        check_number(gain, 0, MOST_ERR)
        for stand in stands:
            check_whole(stand)
        if max(stands) - min(stands) > slack_of(err, gain):
            raise BadNumber("the clocks stand too far apart")
        self.stands = list(stands)
        self.err = err
        self.gain = gain
        # The places of the one that has fallen and of the one that listens; one of them at most is there.
        self.fallen = None
        self.listening = None

    def turn(self, heard, gains):
        """Set each clock that is not fallen by the row of what it heard and by its gain."""
        self.check_length(heard)
        self.check_length(gains)
        # No stand is changed before all rows are looked over: a refusal leaves everything as it was.
        stands = [self.stand_behind(at, heard[at], gains[at]) for at in range(len(self.stands))]
        self.stands = stands
        self.listening = None

    def fall(self, at):
        """Let the clock at that place fall."""
        self.check_place(at)
        if self.fallen is not None or self.listening is not None:
            raise TooFew("a clock is not good already")
        self.fallen = at

    def rise(self, at):
        """Let the fallen clock at that place listen for one turn."""
        self.check_place(at)
        if self.fallen != at:
            raise NoStep("the clock is not fallen")
        self.fallen = None
        self.listening = at

    def told(self):
        """The list of stands, None for a clock that is not good."""
        return [None if at in (self.fallen, self.listening) else stand for at, stand in enumerate(self.stands)]

    def width(self):
        """The greatest good stand less the least."""
        good = [stand for stand in self.told() if stand is not None]
        return max(good) - min(good)

    def check_place(self, at):
        """Refuse what is no place of a clock."""
        check_number(at, 0, len(self.stands) - 1)

    def check_length(self, row):
        """Refuse a list of another length than there are clocks."""
        if len(row) != len(self.stands):
            raise BadNumber("not one for each clock")

    def stand_behind(self, at, row, gain):
        """Where the clock at that place stands behind a turn."""
        if at == self.fallen:
            return self.stands[at]
        self.check_length(row)
        for place, word in enumerate(row):
            self.check_word(place, word)
        check_number(gain, 0, self.gain)
        return middle([word for word in row if word is not None]) + gain

    def check_word(self, place, word):
        """Refuse a word that cannot be heard of the clock at that place."""
        if place == self.listening:
            if word is not None:
                raise BadNumber("a word of a clock that listens")
        elif place == self.fallen:
            if word is not None:
                check_whole(word)
        else:
            check_number(word, self.stands[place], self.stands[place] + self.err)


def check_count(stands):
    """Refuse too few clocks and too many."""
    if len(stands) < LEAST_CLOCKS:
        raise TooFew("fewer than four clocks")
    if len(stands) > MOST_CLOCKS:
        raise BadNumber("more than seven clocks")


def wider(err, gain):
    """None, or four clocks and a turn behind which the good ones stand apart by the whole slack."""
    slack = slack_of(err, gain)
    if slack == 0:
        return None
    # The slack less one is odd, so that the halving of the low middle loses what that of the high one does not.
    stands = [0, 1, slack - 1, 0]
    low = [0, 1, slack - 1, -1]
    high = [err, 1 + err, slack - 1 + err, slack + err]
    return stands, [low, list(low), high, [None] * 4], [0, 0, gain, 0]


def parted(turns, *, err=0, gain=1):
    """So many turns of two good clocks and a fallen one, each of which puts the two further apart."""
    check_whole(turns)
    check_whole(err)
    check_whole(gain)
    rows = []
    for turn in range(turns):
        # The first one stays at 0. The fallen one tells it something low, and the second one something high.
        stand = turn * (err + gain)
        first = ([0, stand, -1], 0)
        second = ([0, stand + err, stand + err + 1], gain)
        rows.append((first, second))
    return rows
