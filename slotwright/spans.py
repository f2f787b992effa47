"""Rounds, and sendings that come round: whether two of them can ever meet."""

ROUNDS = (4, 5, 6, 8, 10, 12, 15, 20, 24, 30, 40, 60, 120)
COMMON = 120
LAST = 480
HEAVY = 400


def common(p, q):
    """The greatest common part of two numbers from 1 up."""
    while q > 0:
        p, q = q, p % q
    return p


def together(rounds):
    """The least number from 1 up that each of the rounds goes into."""
    whole = 1
    for every in rounds:
        whole = whole // common(whole, every) * every
    return whole


def apart(one, two, *, slack=0):
    """Whether no going of the one can ever meet a going of the two."""
    start, every, long = one
    other_start, other_every, other_long = two
    part = common(every, other_every)
    gap = (other_start - start) % part
    return long + slack <= gap <= part - other_long - slack


def meet(one, two, *, slack=0):
    """None, or the first goings that can meet, with two earlinesses at which they do."""
    start, every, long = one
    other_every = two[1]
    # Behind so many goings the one stands to the two as it stood at first.
    for i in range(other_every // common(every, other_every)):
        moment = start + i * every
        k, gap = first_behind(two, moment, slack)
        if gap < long + slack:
            return i, k, held_within(-gap, slack), held_within(gap, slack)
    return None


def first_behind(two, moment, slack):
    """The first going of the two that can be on its line at the moment or later, and how far behind it is due."""
    start, every, long = two
    soonest = moment - long - slack + 1
    k = -((start - soonest) // every)
    return k, start + k * every - moment


def held_within(number, most):
    """The number from 0 to the most that is nearest to the told one."""
    return max(0, min(number, most))
