"""Two halves: what changes when the events of some keys arrive late."""

from holdtap.choosing import possible_plays
from holdtap.errors import InvalidKey, InvalidLate, TooLarge
from holdtap.integers import are_ascending, is_between
from holdtap.outputs import are_outputs, outputs_alone
from holdtap.playing import check_playable

GREATEST_LATE = 10 ** 9
MOST_HALF_EVENTS = 8


def late_results(layout, record, keys, late):
    """The different flat results of all records that can arrive, ascending."""
    check_halves(layout, record, keys, late)
    found = {}
    for result, delays in arrivals(layout, record, keys, late):
        found[tuple(result)] = True
    return [list(result) for result in sorted(list(found))]


def delays_for(layout, record, keys, late, outputs):
    """Delays of the events with which the flat result is this one, None if there are none."""
    check_halves(layout, record, keys, late)
    if not are_outputs(outputs):
        return None
    for result, delays in arrivals(layout, record, keys, late):
        if result == outputs:
            return delays
    return None


def safe_late(layout, record, keys, most):
    """The greatest number of ticks up to the most with which only one result can arrive."""
    check_halves(layout, record, keys, most)
    found = arrivals(layout, record, keys, most)
    # One of them has no delay at all: the record itself.
    own = [result for result, delays in found if not any(delays)][0]
    return min([max(delays) - 1 for result, delays in found if result != own], default=most)


def arrivals(layout, record, keys, late):
    """The flat results of the records that can arrive, each with the least delays for it.

    A result is told once for each sequence of the events and each choice that gives it.
    """
    found = []
    for numbers in sequences(record, keys):
        arrived = [record[number] for number in numbers]
        ticks = [tick for tick, key, way in arrived]
        latest = [tick + late if key in keys else tick for tick, key, way in arrived]
        order = [(key, way) for tick, key, way in arrived]
        for play, least in possible_plays(layout, order, ticks, neighbours(numbers), latest):
            delays = [0] * len(record)
            for number, tick in zip(numbers, least):
                delays[number] = tick - record[number][0]
            found.append((outputs_alone(play.result), delays))
    return found


def sequences(record, keys):
    """The sequences in which the events could arrive if delays had no limit, as lists of their numbers."""
    late = [number for number, event in enumerate(record) if event[1] in keys]
    other = [number for number, event in enumerate(record) if event[1] not in keys]
    return joined_ways(late, other)


def joined_ways(first, second):
    """All ways to join two short lists to one that keeps the sequence of each."""
    if not first or not second:
        return [first + second]
    return (
        [first[:1] + rest for rest in joined_ways(first[1:], second)]
        + [second[:1] + rest for rest in joined_ways(first, second[1:])]
    )


def neighbours(numbers):
    """The bounds on the ticks of events that arrive in this sequence of their numbers."""
    # At one tick events keep the sequence of the record: so one that has overtaken is a tick ahead.
    return [
        (at - 1, at, 0 if numbers[at - 1] < numbers[at] else 1) for at in range(1, len(numbers))
    ]


def check_halves(layout, record, keys, late):
    """Raise the error of the first wrong argument, then TooLarge."""
    check_playable(layout, record)
    if not isinstance(keys, list) or not are_ascending(keys, len(layout[0])):
        raise InvalidKey("not an ascending list of keys of the layout")
    if not is_between(late, 0, GREATEST_LATE):
        raise InvalidLate("an integer from 0 to 10 ** 9 is needed")
    if len(record) > MOST_HALF_EVENTS:
        raise TooLarge(MOST_HALF_EVENTS)
