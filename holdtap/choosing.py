"""Playing an order, in which a choice tells what the presses of duals are."""

from holdtap.layouts import is_dual
from holdtap.player import Player, deciding_event, what_is_done


class Choosing:
    """An order that is played up to the next press for which the choice has no item yet."""

    def __init__(self, layout, order):
        self.player = Player(layout)
        # Deciding events do not depend on ticks, so any ticks will do.
        self.events = [(0, key, way) for key, way in order]
        self.result = []
        self.kinds = []
        self.bounds = []
        self.go_on()

    def twin(self):
        """Another one that is as far."""
        other = Choosing(self.player.layout, [])
        other.player = self.player.twin()
        other.events = self.events
        other.result = list(self.result)
        other.kinds = list(self.kinds)
        other.bounds = list(self.bounds)
        return other

    def at_end(self):
        """Whether the whole order is played."""
        return len(self.result) == len(self.events)

    def go_on(self):
        """Play up to the next press of a dual that its own up decides."""
        while not self.at_end():
            at = len(self.result)
            tick, key, way = self.events[at]
            if way == "up":
                self.result.append(self.player.release(key))
                continue
            layer, action = self.player.taken(key)
            if not is_dual(action):
                self.result.append(self.player.press(key, action))
            elif self.deciding_up(at, action) is None:
                self.result.append(self.player.press(key, what_is_done(action, "hold")))
            else:
                return

    def choose(self, kind):
        """Let the next press be a tap or a hold, with the bound that this needs, and play on."""
        at = len(self.result)
        tick, key, way = self.events[at]
        layer, dual = self.player.taken(key)
        up = self.deciding_up(at, dual)
        if kind == "tap":
            self.bounds.append((up, at, 1 - dual[3]))
        else:
            self.bounds.append((at, up, dual[3]))
        self.kinds.append(kind)
        self.result.append(self.player.press(key, what_is_done(dual, kind)))
        self.go_on()

    def deciding_up(self, at, dual):
        """The number of the up of the press of a dual if that is its deciding event."""
        number = deciding_event(self.events, at, dual[4])
        if number is None or self.events[number][1] != self.events[at][1]:
            return None
        return number


def chosen(layout, order, choice):
    """The order played with the choice; None unless this, which may be any value, is a choice of it."""
    if not isinstance(choice, tuple):
        return None
    play = Choosing(layout, order)
    for kind in choice:
        if play.at_end() or not isinstance(kind, str) or kind not in ("tap", "hold"):
            return None
        play.choose(kind)
    return play if play.at_end() else None
