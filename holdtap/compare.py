"""Comparing small layouts: whether they play all records alike, and what they never use."""

from holdtap.errors import InvalidLayout
from holdtap.layouts import check_layout, duals, with_time
from holdtap.pledges import FREE, both_pledges
from holdtap.search import shortest_record
from holdtap.small import GREATEST_SMALL_TIME, SmallPlayer, check_small, output_of

# What the states of a goal become when only the rest of the record is left to find.
REACHED = None


class Parting:
    """The goal that two layouts give different outputs at an event."""

    def __init__(self, layout, other):
        self.first = SmallPlayer(layout)
        self.second = SmallPlayer(other)
        self.known = {}

    def start(self):
        """The states of both layouts at the beginning."""
        return (self.first.start(), self.second.start())

    def is_reached(self, states):
        """Whether the outputs were different."""
        return states == REACHED

    def ways_down(self, states, key):
        """The states behind a down of the key, each with the pledge that it needs."""
        if states == REACHED:
            return [(REACHED, FREE)]
        # Many records lead to the same states: only the pledges of the keys are other ones.
        if (states, key) not in self.known:
            self.known[states, key] = self.all_ways(states, key)
        return self.known[states, key]

    def all_ways(self, states, key):
        """The same, for states that are not known yet."""
        found = {}
        for what, needed in self.first.ways_down(states[0], key):
            for other_what, other_needed in self.second.ways_down(states[1], key):
                pledge = both_pledges(needed, other_needed)
                if pledge is None:
                    continue
                following = REACHED
                if output_of(what) == output_of(other_what):
                    following = (
                        self.first.after_press(states[0], key, what),
                        self.second.after_press(states[1], key, other_what),
                    )
                found[following, pledge] = True
        return list(found)

    def after_up(self, states, key):
        """The states behind an up: as all presses were alike so far, so are all releases."""
        if states == REACHED:
            return REACHED
        return (self.first.after_release(states[0], key), self.second.after_release(states[1], key))


class Using:
    """The goal that a layer is on or, with a key, that its action in this layer is taken."""

    def __init__(self, layout, layer, key=None):
        self.player = SmallPlayer(layout)
        self.layer = layer
        self.key = key

    def start(self):
        """The state at the beginning."""
        return self.player.start()

    def is_reached(self, state):
        """Whether the layer was on, or the action was taken."""
        return state == REACHED

    def ways_down(self, state, key):
        """The states behind a down of the key, each with the pledge that it needs."""
        if state == REACHED:
            return [(REACHED, FREE)]
        found = []
        is_taken = key == self.key and self.player.taken_layer(state, key) == self.layer
        for what, pledge in self.player.ways_down(state, key):
            following = self.player.after_press(state, key, what)
            if is_taken or (self.key is None and self.player.is_layer_on(following, self.layer)):
                following = REACHED
            found.append((following, pledge))
        return found

    def after_up(self, state, key):
        """The state behind an up of the key."""
        return REACHED if state == REACHED else self.player.after_release(state, key)


def same_layouts(layout, other):
    """Whether each record has the same result with both layouts."""
    check_pair(layout, other)
    return part(layout, other) is None


def parting_record(layout, other):
    """A shortest whole record with different results, None if there is none."""
    check_pair(layout, other)
    return part(layout, other)


def unused_layers(layout):
    """The layers that are on behind no event of any record."""
    check_small_layout(layout)
    many = len(layout[0])
    return [
        layer for layer in range(1, len(layout))
        if shortest_record(Using(layout, layer), many) is None
    ]


def unused_places(layout):
    """The places whose action is never taken, those with "through" left out."""
    check_small_layout(layout)
    many = len(layout[0])
    return [
        (layer, key) for layer in range(len(layout)) for key in range(many)
        if layout[layer][key] != "through"
        and shortest_record(Using(layout, layer, key), many) is None
    ]


def idle_times(layout):
    """The places of the duals whose time makes no difference."""
    check_small_layout(layout)
    return [(layer, key) for layer, key in duals(layout) if is_idle(layout, layer, key)]


def is_idle(layout, layer, key):
    """Whether the layout stays the same with each time of the dual at the place."""
    return all([
        part(layout, with_time(layout, layer, key, time)) is None
        for time in range(1, GREATEST_SMALL_TIME + 1)
    ])


def part(layout, other):
    """A shortest whole record with different results, for checked layouts; None if there is none."""
    return shortest_record(Parting(layout, other), len(layout[0]))


def check_small_layout(layout):
    """Raise InvalidLayout or TooLarge unless this is a small layout."""
    check_layout(layout)
    check_small(layout)


def check_pair(layout, other):
    """Raise InvalidLayout or TooLarge unless these are small layouts with as many keys."""
    check_layout(layout)
    check_layout(other)
    if len(layout[0]) != len(other[0]):
        raise InvalidLayout(None, None)
    check_small(layout)
    check_small(other)
