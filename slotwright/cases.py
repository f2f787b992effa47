"""The cases of a lot's pairs: the first row of cases that has starts, or leaves that show there is none."""

from slotwright.checks import check_number
from slotwright.errors import Heavy
from slotwright.rings import climb, closes
from slotwright.spans import HEAVY
from slotwright.wants import case_wants, chances, firm, measure, order, pairs


def settle(net, frames, *, slack=0, kept=(), most=HEAVY):
    """The least starts of the first row of cases that has some, and None; or None and all leaves."""
    spans = chances(net, frames, slack=slack, kept=kept)
    check_number(most, 0, HEAVY)
    steps = measure(spans)
    if steps > most:
        raise Heavy(steps)
    if lacks_chance(spans):
        return None, []
    wants = firm(net, frames, slack=slack, kept=kept)
    rows = pairs(net, frames, slack=slack)
    return search(1 + len(order(frames)), wants, rows, spans)


def lacks_chance(spans):
    """Whether a pair has no chance at all."""
    return any([many == 0 for low, many in spans])


def search(count, wants, rows, spans):
    """Go through the cases of the pairs in their order, each pair's from low up."""
    leaves = []
    # The cases yet to be looked at, the next one last, with the least numbers of the step ahead of it.
    waiting = [((), [0] * count)]
    while waiting:
        taken, numbers = waiting.pop()
        raised, closed = climb(numbers, wants + taken_wants(rows, taken))
        if raised is None:
            leaves.append((taken, closed))
        elif len(taken) == len(rows):
            return raised[1:], None
        else:
            low, many = spans[len(taken)]
            waiting += [((*taken, case), raised) for case in reversed(range(low, low + many))]
    return None, leaves


def taken_wants(rows, taken):
    """The wants of the cases taken for the first pairs."""
    wants = []
    for pair, case in zip(rows, taken):
        wants += case_wants(pair, case)
    return wants


def holds(net, frames, leaves, *, slack=0, kept=()):
    """Whether the leaves show that the lot has no starts."""
    spans = chances(net, frames, slack=slack, kept=kept)
    if lacks_chance(spans):
        return len(leaves) == 0
    wants = firm(net, frames, slack=slack, kept=kept)
    rows = pairs(net, frames, slack=slack)
    all_taken = [taken for taken, closed in leaves]
    return (all([are_cases(taken, spans) for taken in all_taken])
            and all([is_ring_of(closed, wants + taken_wants(rows, taken)) for taken, closed in leaves])
            and none_begins_another(all_taken) and cover_all(all_taken, spans))


def are_cases(taken, spans):
    """Whether these are numbers of the chances of the first pairs."""
    return (len(taken) <= len(spans)
            and all([low <= case < low + many for case, (low, many) in zip(taken, spans)]))


def is_ring_of(closed, wants):
    """Whether the list is a ring of these wants."""
    return closes(closed) and all([want in wants for want in closed])


def none_begins_another(all_taken):
    """Whether no row of cases begins with another one, or is it."""
    there = {taken: True for taken in all_taken}
    beginnings = [taken[:many] for taken in all_taken for many in range(len(taken))]
    return len(there) == len(all_taken) and not any([row in there for row in beginnings])


def cover_all(all_taken, spans):
    """Whether every row of cases begins with one of these, none of which begins with another."""
    # The rows are counted, not gone through: there may be far too many of them.
    return sum([row_count(spans[len(taken):]) for taken in all_taken]) == row_count(spans)


def row_count(spans):
    """How many rows of cases there are of pairs with these chances."""
    rows = 1
    for low, many in spans:
        rows *= many
    return rows
