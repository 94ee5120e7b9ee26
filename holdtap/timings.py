"""All timings of an order: the choices that are possible, with their least ticks and results."""

from holdtap.choosing import chosen, possible_plays
from holdtap.differences import find_ring
from holdtap.errors import InvalidChoice, InvalidGap, TooLarge
from holdtap.integers import is_between
from holdtap.layouts import check_layout, duals
from holdtap.outputs import are_outputs
from holdtap.records import check_order

GREATEST_GAP = 10 ** 9
MOST_ORDER_EVENTS = 40
MOST_DUAL_DOWNS = 10


def choices(layout, order, *, gap=0, most=None):
    """The possible choices with their least ticks, taps ahead of holds."""
    check_timing(layout, order, gap, most)
    return [(choice, ticks) for choice, ticks, result in possible(layout, order, gap, most)]


def results(layout, order, *, gap=0, most=None):
    """The different results of the possible choices, in the order of the first choice with each."""
    check_timing(layout, order, gap, most)
    found = []
    known = {}
    for choice, ticks, result in possible(layout, order, gap, most):
        if tuple(result) not in known:
            known[tuple(result)] = True
            found.append(result)
    return found


def sure_outputs(layout, order, *, gap=0, most=None):
    """For each event the output that it has in all results, None if they differ there."""
    check_timing(layout, order, gap, most)
    found = [result for choice, ticks, result in possible(layout, order, gap, most)]
    first = found[0]
    return [
        first[at] if all([other[at] == first[at] for other in found]) else None
        for at in range(len(order))
    ]


def ticks_for(layout, order, result, *, gap=0, most=None):
    """The least ticks of the first possible choice with this result, None if there is none."""
    check_timing(layout, order, gap, most)
    if not are_outputs(result):
        return None
    for choice, ticks, found in possible(layout, order, gap, most):
        if found == result:
            return ticks
    return None


def why_not(layout, order, choice):
    """None if the choice is possible, otherwise a ring of bounds on the ticks of the events."""
    check_layout(layout)
    check_order(order, len(layout[0]))
    play = chosen(layout, order, choice)
    if play is None:
        raise InvalidChoice("not a choice of the order")
    check_size(layout, order)
    bounds = distances(len(order), 0, None) + play.bounds
    ring = find_ring(len(order), bounds)
    if ring is None:
        return None
    return [bounds[index] for index in ring]


def possible(layout, order, gap, most):
    """The possible choices, in order, as tuples (choice, least ticks, result)."""
    steps = distances(len(order), gap, most)
    plays = possible_plays(layout, order, [0] * len(order), steps)
    return [(tuple(play.kinds), ticks, play.result) for play, ticks in plays]


def distances(many, gap, most):
    """The bounds that so many neighbouring events have by their distances."""
    bounds = [(at, at + 1, gap) for at in range(many - 1)]
    if most is not None:
        bounds = bounds + [(at + 1, at, -most) for at in reversed(range(many - 1))]
    return bounds


def check_timing(layout, order, gap, most):
    """Raise the error of the first wrong argument, then TooLarge."""
    check_layout(layout)
    check_order(order, len(layout[0]))
    if not is_between(gap, 0, GREATEST_GAP):
        raise InvalidGap("the gap is an integer from 0 to 10 ** 9")
    if most is not None and not is_between(most, gap, GREATEST_GAP):
        raise InvalidGap("most is None or an integer from the gap to 10 ** 9")
    check_size(layout, order)


def check_size(layout, order):
    """Raise TooLarge for an order with too many events, or too many downs of keys with a dual."""
    if len(order) > MOST_ORDER_EVENTS:
        raise TooLarge(MOST_ORDER_EVENTS)
    keys = [key for layer, key in duals(layout)]
    if len([key for key, way in order if way == "down" and key in keys]) > MOST_DUAL_DOWNS:
        raise TooLarge(MOST_DUAL_DOWNS)
