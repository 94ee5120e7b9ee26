"""Records: key events with their ticks; orders: key events without them."""

from holdtap.errors import InvalidOrder, InvalidRecord, InvalidTick
from holdtap.integers import is_an_integer

MOST_EVENTS = 400
TICKS_BEHIND = 10 ** 9


def is_record(value):
    """Whether any value is a record."""
    try:
        check_record(value)
    except InvalidRecord:
        return False
    return True


def is_order(value):
    """Whether any value is an order."""
    try:
        check_order(value)
    except InvalidOrder:
        return False
    return True


def is_whole(record):
    """Whether all keys are up behind the record."""
    check_record(record)
    return held_keys(record) == []


def order_of(record):
    """The order of the record."""
    check_record(record)
    return [(key, way) for tick, key, way in record]


def lengths(record):
    """For each down the length of its press, if that has an up; otherwise None."""
    check_record(record)
    found = [None] * len(record)
    downs = {}
    for index, (tick, key, way) in enumerate(record):
        if way == "down":
            downs[key] = index
        else:
            down = downs[key]
            found[down] = tick - record[down][0]
    return found


def ended(record):
    """The record with an up, behind the time of any dual, for each key that is down."""
    check_record(record)
    keys = held_keys(record)
    if not keys:
        return list(record)
    tick = record[-1][0] + TICKS_BEHIND
    return record + [(tick, key, "up") for key in keys]


def with_ticks(order, ticks):
    """The record with this order and these ticks."""
    check_order(order)
    if not are_ticks(ticks, len(order)):
        raise InvalidTick("the ticks are not as many integers that do not fall")
    return [(tick, key, way) for tick, (key, way) in zip(ticks, order)]


def held_keys(record):
    """The keys that are down behind the record, ascending."""
    held = {}
    for tick, key, way in record:
        held[key] = way == "down"
    return sorted([key for key in held if held[key]])


def check_record(value, many=None):
    """Raise InvalidRecord, with the first wrong index, unless the value is a record.

    With many, only the keys below it may occur.
    """
    if not is_short_list(value):
        raise InvalidRecord(None)
    held = {}
    for index, event in enumerate(value):
        if not is_event(event) or not is_below(event[1], many):
            raise InvalidRecord(index)
        if not can_follow(event, value[index - 1] if index > 0 else None, held):
            raise InvalidRecord(index)


def check_order(value, many=None):
    """Raise InvalidOrder, with the first wrong index, unless the value is an order.

    With many, only the keys below it may occur.
    """
    if not is_short_list(value):
        raise InvalidOrder(None)
    held = {}
    for index, step in enumerate(value):
        if not is_step(step) or not is_below(step[0], many):
            raise InvalidOrder(index)
        if not takes_turn(held, step[0], step[1]):
            raise InvalidOrder(index)


def is_short_list(value):
    """Whether any value is a list with no more items than a record can have."""
    return isinstance(value, list) and len(value) <= MOST_EVENTS


def is_event(value):
    """Whether any value is a tuple (tick, key, way)."""
    if not isinstance(value, tuple) or len(value) != 3:
        return False
    tick, key, way = value
    return is_an_integer(tick) and is_step((key, way))


def is_step(value):
    """Whether any value is a tuple (key, way)."""
    if not isinstance(value, tuple) or len(value) != 2:
        return False
    key, way = value
    return is_an_integer(key) and key >= 0 and isinstance(way, str) and way in ("down", "up")


def is_below(key, many):
    """Whether the key is one of so many keys; None stands for any number of keys."""
    return many is None or key < many


def can_follow(event, last, held):
    """Whether an event can stand behind the last one, None if it is the first.

    If so, held, the keys that are down so far, tells its key from now on.
    """
    if last is not None and event[0] < last[0]:
        return False
    return takes_turn(held, event[1], event[2])


def takes_turn(held, key, way):
    """Whether the key can go this way now; if so, held tells it from now on."""
    goes_down = way == "down"
    if held.get(key, False) == goes_down:
        return False
    held[key] = goes_down
    return True


def are_ticks(value, many):
    """Whether any value is a list of so many integers, none less than the one before."""
    if not isinstance(value, list) or len(value) != many:
        return False
    if not all([is_an_integer(tick) for tick in value]):
        return False
    return all([value[at - 1] <= value[at] for at in range(1, many)])
