"""Times: which times of one dual give which results, and which give those that are wished."""

from holdtap.errors import InvalidPlace, InvalidRecord, InvalidWishes
from holdtap.integers import are_ascending, is_between
from holdtap.layouts import GREATEST_TIME, check_layout, is_dual, with_time
from holdtap.outputs import are_outputs
from holdtap.player import play
from holdtap.playing import check_playable
from holdtap.records import check_record, lengths

LEAST_TIME = 1
MOST_WISHES = 12


def by_time(layout, record, layer, key):
    """The results for all times of the dual, as ranges (first, last, result)."""
    check_playable(layout, record)
    check_dual(layout, layer, key)
    return ranges_of(layout, record, layer, key)


def good_times(layout, wishes, layer, key):
    """The ranges (first, last) of the times that fulfil all wishes."""
    return common_times(times_of_wishes(layout, wishes, layer, key))


def best_time(layout, wishes, layer, key):
    """The good time that is farthest from the ends of its range, None without a good time."""
    best, farthest = None, -1
    for first, last in good_times(layout, wishes, layer, key):
        distance = (last - first) // 2
        if distance > farthest:
            best, farthest = first + distance, distance
    return best


def clash(layout, wishes, layer, key):
    """Numbers of wishes that no time fulfils together, none too many; None if there is a good time."""
    times = times_of_wishes(layout, wishes, layer, key)
    if common_times(times):
        return None
    left = list(range(len(wishes)))
    for number in range(len(wishes)):
        rest = [other for other in left if other != number]
        if not common_times([times[other] for other in rest]):
            left = rest
    return left


def is_clash(layout, wishes, layer, key, value):
    """Whether any value is a list of numbers as clash returns them."""
    times = times_of_wishes(layout, wishes, layer, key)
    if not isinstance(value, list) or not are_ascending(value, len(wishes)):
        return False
    if common_times([times[number] for number in value]):
        return False
    return all([
        common_times([times[other] for other in value if other != number]) != []
        for number in value
    ])


def ranges_of(layout, record, layer, key):
    """The results for all times of the dual at the place, for checked arguments."""
    firsts = first_times(record, key)
    lasts = [first - 1 for first in firsts[1:]] + [GREATEST_TIME]
    ranges = []
    for first, last in zip(firsts, lasts):
        _, told = play(with_time(layout, layer, key, first), record)
        result = [output for meaning, sure, output in told]
        if ranges and ranges[-1][2] == result:
            ranges[-1] = (ranges[-1][0], last, result)
        else:
            ranges.append((first, last, result))
    return ranges


def first_times(record, key):
    """The times at which another result can begin, ascending."""
    firsts = [LEAST_TIME]
    for event, length in zip(record, lengths(record)):
        if event[1] == key and length is not None and length < GREATEST_TIME:
            firsts.append(length + 1)
    return sorted(set(firsts))


def times_of_wishes(layout, wishes, layer, key):
    """For each wish the ranges (first, last) of the times that fulfil it; checks the arguments."""
    check_layout(layout)
    if not are_wishes(wishes, len(layout[0])):
        raise InvalidWishes("not a list of 1 to 12 wishes for the layout")
    check_dual(layout, layer, key)
    return [
        [
            (first, last) for first, last, result in ranges_of(layout, record, layer, key)
            if result == wished
        ]
        for record, wished in wishes
    ]


def common_times(times):
    """The ranges of the times that lie in one range of each list."""
    common = [(LEAST_TIME, GREATEST_TIME)]
    for ranges in times:
        both = [
            (max(first, low), min(last, high)) for first, last in common for low, high in ranges
        ]
        common = [(first, last) for first, last in both if first <= last]
    return common


def check_dual(layout, layer, key):
    """Raise InvalidPlace unless the layout has a dual at this place."""
    if not is_between(layer, 0, len(layout) - 1) or not is_between(key, 0, len(layout[0]) - 1):
        raise InvalidPlace("the layout does not have this place")
    if not is_dual(layout[layer][key]):
        raise InvalidPlace("the action at this place is no dual")


def are_wishes(value, many):
    """Whether any value is a list of wishes for a layout with so many keys."""
    if not isinstance(value, list) or not 1 <= len(value) <= MOST_WISHES:
        return False
    return all([is_wish(wish, many) for wish in value])


def is_wish(value, many):
    """Whether any value is a record of so many keys with a list of as many outputs."""
    if not isinstance(value, tuple) or len(value) != 2:
        return False
    record, result = value
    try:
        check_record(record, many)
    except InvalidRecord:
        return False
    return are_outputs(result) and len(result) == len(record)
