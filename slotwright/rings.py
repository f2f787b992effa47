"""Wants between numbers: the least numbers that keep them, or a ring that shows there are none."""


def least(count, wants):
    """The least numbers from 0 up that keep all wants, or None."""
    numbers, closed = climb([0] * count, wants)
    return numbers


def ring(count, wants):
    """None, or a list of wants that is a ring."""
    numbers, closed = climb([0] * count, wants)
    return closed


def closes(wants):
    """Whether the list of wants is a ring."""
    following = wants[1:] + wants[:1]
    joined = all([one[1] == two[0] for one, two in zip(wants, following)])
    return joined and sum([number for i, j, number in wants]) > 0


def climb(numbers, wants):
    """The least numbers, none below the told ones, that keep all wants, and None; or None and a ring."""
    raised = list(numbers)
    raisers = {}
    # As soon as the wants that raised the numbers last run in a circle, that circle is a ring; and
    # they do so within as many goings through as there are numbers, however large the numbers are.
    while raise_all(raised, raisers, wants):
        closed = circle(raisers)
        if closed is not None:
            return None, closed
    return raised, None


def raise_all(numbers, raisers, wants):
    """Go through all wants once, note for each number the want that raised it last, and tell whether one did."""
    changed = False
    for want in wants:
        i, j, more = want
        if numbers[j] < numbers[i] + more:
            numbers[j] = numbers[i] + more
            raisers[j] = want
            changed = True
    return changed


def circle(raisers):
    """A circle of wants, each raising the number from which the next one raises, or None."""
    walks = {}
    for begin in raisers:
        at = begin
        while at in raisers and at not in walks:
            walks[at] = begin
            at = raisers[at][0]
        # A number met on an earlier walk leads where that one led: to no circle.
        if walks.get(at) == begin:
            return circle_through(raisers, at)
    return None


def circle_through(raisers, at):
    """The circle from the number round to it again."""
    backward = [raisers[at]]
    while backward[-1][0] != at:
        backward.append(raisers[backward[-1][0]])
    return backward[::-1]
