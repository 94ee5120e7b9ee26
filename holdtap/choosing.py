"""Playing an order, in which a choice tells what the presses of duals are."""

from holdtap.differences import least_above
from holdtap.layouts import is_dual
from holdtap.player import Player, deciding_up, what_is_done


class Choosing:
    """An order that is played up to the next press for which the choice has no item yet."""

    def __init__(self, layout, order):
        self.player = Player(layout)
        # Deciding events do not depend on ticks, so any ticks will do.
        self.events = [(0, key, way) for key, way in order]
        self.result = []
        self.kinds = []
        self.bounds = []
        self.go_on()

    def twin(self):
        """Another one that is as far."""
        other = Choosing(self.player.layout, [])
        other.player = self.player.twin()
        other.events = self.events
        other.result = list(self.result)
        other.kinds = list(self.kinds)
        other.bounds = list(self.bounds)
        return other

    def at_end(self):
        """Whether the whole order is played."""
        return len(self.result) == len(self.events)

    def go_on(self):
        """Play up to the next press of a dual that its own up decides."""
        while not self.at_end():
            at = len(self.result)
            tick, key, way = self.events[at]
            if way == "up":
                self.result.append(self.player.release(key))
                continue
            layer, action = self.player.taken(key)
            if not is_dual(action):
                self.result.append(self.player.press(key, action))
            elif deciding_up(self.events, at, action) is None:
                self.result.append(self.player.press(key, what_is_done(action, "hold")))
            else:
                return

    def choose(self, kind):
        """Let the next press be a tap or a hold, with the bound that this needs, and play on."""
        at = len(self.result)
        tick, key, way = self.events[at]
        layer, dual = self.player.taken(key)
        up = deciding_up(self.events, at, dual)
        if kind == "tap":
            self.bounds.append((up, at, 1 - dual[3]))
        else:
            self.bounds.append((at, up, dual[3]))
        self.kinds.append(kind)
        self.result.append(self.player.press(key, what_is_done(dual, kind)))
        self.go_on()


def chosen(layout, order, choice):
    """The order played with the choice; None unless this, which may be any value, is a choice of it."""
    if not isinstance(choice, tuple):
        return None
    play = Choosing(layout, order)
    for kind in choice:
        if play.at_end() or not isinstance(kind, str) or kind not in ("tap", "hold"):
            return None
        play.choose(kind)
    return play if play.at_end() else None


def possible_plays(layout, order, ticks, bounds, latest=None):
    """The choices that are possible with ticks that fulfil the bounds: tuples (play, least ticks).

    No tick is less than that in ticks or, if latest is given, greater than that in latest.
    Taps come ahead of holds.
    """
    found = []
    begun = []
    least = least_ticks(ticks, bounds, latest)
    if least is not None:
        begun.append((Choosing(layout, order), least))
    while begun:
        play, least = begun.pop()
        if play.at_end():
            found.append((play, least))
            continue
        # What is put down last is taken up first: the tap with all that follows it.
        for kind in ("hold", "tap"):
            branch = play.twin()
            branch.choose(kind)
            # Further bounds only raise the least ticks, so these can begin with those so far.
            raised = least_ticks(least, bounds + branch.bounds, latest)
            if raised is not None:
                begun.append((branch, raised))
    return found


def least_ticks(ticks, bounds, latest):
    """The least ticks from these on that fulfil the bounds and are not behind the latest, or None."""
    least = least_above(ticks, bounds)
    if least is None or latest is None:
        return least
    # None of these ticks can be less, so one that is too late is too late in all ways.
    if any([tick > end for tick, end in zip(least, latest)]):
        return None
    return least
