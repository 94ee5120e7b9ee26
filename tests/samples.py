"""The values that the examples of the document use, and what the tests of errors need."""

from holdtap.errors import HoldError
from tests.any_values import OTHER_KINDS

LAYOUT = [
    [("dual", "a", ("layer", 1), 5, "time"), ("code", "x"), ("once", 1)],
    ["through", ("code", "1"), "through"],
]
RECORD = [(0, 0, "down"), (1, 1, "down"), (2, 1, "up"), (4, 0, "up")]

NO_LAYOUTS = [
    (None, (None, None)), ([], (None, None)), (tuple(LAYOUT), (None, None)), ([["none"]] * 7, (None, None)),
    ([LAYOUT[0], ["through"]], (None, None)), ([["none", "through"], ["bad", "none"]], (0, 1)),
    ([["none", "none"], [None, ()]], (1, 0)), ([LAYOUT[0][:2] + [("once", 2)], LAYOUT[1]], (0, 2)),
]
# For LAYOUT, which has three keys.
NO_RECORDS = [
    (None, None), (tuple(RECORD), None), ([None] * 401, None), ([(0, 0, "up")], 0), ([(0, 3, "down")], 0),
    (RECORD + [(3, 0, "down")], 4), (RECORD[:2] + [[2, 1, "up"]], 2), ([(True, 0, "down")], 0),
    ([(0, 0, "down"), (0, 3, "down"), None], 1), (RECORD + [(4, 0, "up")], 4),
]


def dual(time, rule="time", tap="a", hold=("code", "b")):
    return ("dual", tap, hold, time, rule)


def events(text):
    """The record that is written as in the document."""
    found = []
    for word in text.split():
        sign = "+" if "+" in word else "-"
        key, tick = word.split(sign, 1)
        found.append((int(tick), int(key), "down" if sign == "+" else "up"))
    return found


def error_of(call, *args, **keywords):
    """The name and the fields of the error that a call raises, None if it raises none."""
    try:
        call(*args, **keywords)
    except HoldError as error:
        return (error.__class__.__name__,) + tuple(vars(error).values())
    return None


def not_integers():
    """Values that are no integers."""
    return [
        value for value in OTHER_KINDS if isinstance(value, bool) or not isinstance(value, int)
    ] + [[0], (0,), "0"]
