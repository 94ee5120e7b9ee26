"""Small layouts, and how they are played in a search through all records."""

from holdtap.errors import TooLarge
from holdtap.layouts import duals, greatest_time, is_dual
from holdtap.player import what_is_done
from holdtap.pledges import FREE, pledges_for

MOST_SMALL_KEYS = 3
MOST_DUAL_KEYS = 2
MOST_SMALL_LAYERS = 3
GREATEST_SMALL_TIME = 4
NO_LAYER = 0


def check_small(layout):
    """Raise TooLarge, with the first limit that is passed, unless the checked layout is small."""
    if len(layout[0]) > MOST_SMALL_KEYS:
        raise TooLarge(MOST_SMALL_KEYS)
    if len(set([key for layer, key in duals(layout)])) > MOST_DUAL_KEYS:
        raise TooLarge(MOST_DUAL_KEYS)
    if len(layout) > MOST_SMALL_LAYERS:
        raise TooLarge(MOST_SMALL_LAYERS)
    if greatest_time(layout) > GREATEST_SMALL_TIME:
        raise TooLarge(GREATEST_SMALL_TIME)


class SmallPlayer:
    """Plays a small layout on states, which are tuples and are never changed.

    A state is (locked, once, bound): for each layer whether it is locked, the layer that waits,
    and for each key the layer that it is bound to; NO_LAYER stands for none. The code that a key
    is bound to is not in the state: no layer hangs on it.
    """

    def __init__(self, layout):
        self.layout = layout

    def start(self):
        """The state in which nothing has happened."""
        return ((False,) * len(self.layout), NO_LAYER, (NO_LAYER,) * len(self.layout[0]))

    def is_layer_on(self, state, layer):
        """Whether the layer is on in this state."""
        locked, once, bound = state
        return layer == 0 or locked[layer] or once == layer or layer in bound

    def taken_layer(self, state, key):
        """The layer whose action a down of the key takes in this state."""
        return max([
            layer for layer in range(len(self.layout))
            if self.layout[layer][key] != "through" and self.is_layer_on(state, layer)
        ])

    def ways_down(self, state, key):
        """What a down of the key can do in this state: tuples (what, pledge that this needs)."""
        return ways_of(self.layout[self.taken_layer(state, key)][key])

    def after_press(self, state, key, what):
        """The state behind a down of the key that does this."""
        locked, once, bound = state
        if what == "none" or what[0] == "code":
            return (locked, NO_LAYER, bound)
        word, layer = what
        if word == "once":
            return (locked, layer, bound)
        if word == "layer":
            return (locked, NO_LAYER, with_item(bound, key, layer))
        return (with_item(locked, layer, not locked[layer]), NO_LAYER, bound)

    def after_release(self, state, key):
        """The state behind an up of the key."""
        locked, once, bound = state
        return (locked, once, with_item(bound, key, NO_LAYER))


def ways_of(action):
    """What a down that takes this action can do, as tuples (what, pledge)."""
    if not is_dual(action):
        return [(action, FREE)]
    tap, hold = what_is_done(action, "tap"), what_is_done(action, "hold")
    if tap == hold:
        return [(tap, FREE)]
    taps = [(tap, pledge) for pledge in pledges_for(action, "tap")]
    return taps + [(hold, pledge) for pledge in pledges_for(action, "hold")]


def output_of(what):
    """The output of a down that does this."""
    return ("press", what[1]) if what[0] == "code" else ()


def with_item(items, at, value):
    """The tuple with another item at this place."""
    return items[:at] + (value,) + items[at + 1:]
