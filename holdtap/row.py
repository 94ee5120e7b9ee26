"""The row of the board: the events that wait until the first one of them can be done."""

from holdtap.layouts import is_dual
from holdtap.player import Player, dual_kind, sure_event, what_is_done


class Row:
    """A board with a clock, in front of a player: events come in, outputs with their ticks come out."""

    def __init__(self, layout):
        self.player = Player(layout)
        self.events = []

    def twin(self):
        """Another row in the same state."""
        other = Row(self.player.layout)
        other.player = self.player.twin()
        other.events = list(self.events)
        return other

    def due(self):
        """The tick at which the clock makes the first event of the row sure; None without one."""
        if not self.events:
            return None
        # An event stays at the front of the row only if it is the down of a dual.
        tick, key, way = self.events[0]
        layer, dual = self.player.taken(key)
        return tick + dual[3]

    def clock(self, tick):
        """Let the clock go on to the tick; return the outputs that come out."""
        out = []
        due = self.due()
        while due is not None and due <= tick:
            out.extend(self.let_out(due))
            due = self.due()
        return out

    def come(self, event):
        """Let an event come at its tick, behind the clock; return the outputs that come out."""
        self.events.append(event)
        return self.let_out(event[0])

    def let_out(self, now):
        """Do events at this tick until the first one of the row is not sure."""
        out = []
        while self.events:
            tick, key, way = self.events[0]
            if way == "up":
                output = self.player.release(key)
            else:
                what = self.front_means(now)
                if what is None:
                    return out
                output = self.player.press(key, what)
            self.events.pop(0)
            if output != ():
                out.append((now, output[0], output[1]))
        return out

    def front_means(self, now):
        """What the down at the front of the row does at this tick; None if that is not sure."""
        tick, key, way = self.events[0]
        layer, action = self.player.taken(key)
        if not is_dual(action):
            return action
        sure = sure_event(self.events, 0, action)
        if sure is None and now < tick + action[3]:
            return None
        return what_is_done(action, dual_kind(self.events, 0, sure))
