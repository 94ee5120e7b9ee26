"""A live board: it receives events one by one, and its calls can be reverted."""

from holdtap.clocked import come_all
from holdtap.combos import check_combos_of, joined
from holdtap.errors import InvalidKey, InvalidTick, NothingToUndo
from holdtap.gate import Gate
from holdtap.integers import is_an_integer, is_between
from holdtap.layouts import check_layout
from holdtap.records import check_record
from holdtap.row import Row


class Flow:
    """A gate with the row of the board behind it; both go by one clock."""

    def __init__(self, gate, row):
        self.gate = gate
        self.row = row

    def twin(self):
        """Another flow in the same state."""
        return Flow(self.gate.twin(), self.row.twin())

    def clock(self, tick):
        """Let the clock go on to the tick; return the outputs that come out."""
        out = []
        due = self.due()
        while due is not None and due <= tick:
            # At one and the same tick the clock of the row is ahead of that of the gate.
            out.extend(self.row.clock(due))
            out.extend(self.pass_on(self.gate.clock(due)))
            due = self.due()
        return out

    def due(self):
        """The next tick at which the clock lets something out; None if nothing waits."""
        ticks = [due for due in (self.row.due(), self.gate.due()) if due is not None]
        return min(ticks, default=None)

    def come(self, event):
        """Let an event come at its tick, behind the clock; return the outputs that come out."""
        return self.pass_on(self.gate.come(event))

    def pass_on(self, events):
        """Let the events that have left the gate come to the row; return the outputs."""
        out = []
        for event in events:
            out.extend(self.row.come(event))
        return out


class Board:
    """A board with a layout, and with combos if there are any."""

    def __init__(self, layout, combos=None):
        check_layout(layout)
        if combos is not None:
            check_combos_of(layout, combos)
        self._layout = [list(actions) for actions in layout]
        self._combos = list(combos or [])
        gate = Gate(len(layout[0]), self._combos)
        # A flow and a list of events are never changed once they are here: a call puts new ones
        # in their place, so that boards and their past can share them.
        self._flow = Flow(gate, Row(joined(self._layout, self._combos)))
        self._events = []
        self._now = None
        self._past = []

    @classmethod
    def of(cls, layout, record):
        """The board without combos on which the events of the record came."""
        board = cls(layout)
        check_record(record, len(layout[0]))
        come_all(board._flow, record)
        board._events = list(record)
        if record:
            board._now = record[-1][0]
        return board

    def down(self, key, tick):
        """Let the clock go on, then the key go down; return the outputs that come out."""
        self._check_key(key)
        self._check_tick(tick)
        if self._is_down(key):
            return self._call(tick, [(tick, key, "up"), (tick, key, "down")])
        return self._call(tick, [(tick, key, "down")])

    def up(self, key, tick):
        """Let the clock go on, then the key go up; return the outputs that come out."""
        self._check_key(key)
        self._check_tick(tick)
        if self._is_down(key):
            return self._call(tick, [(tick, key, "up")])
        return self._call(tick, [])

    def clock(self, tick):
        """Let the clock go on; return the outputs that come out."""
        self._check_tick(tick)
        return self._call(tick, [])

    def undo(self):
        """Revert the last call that is not reverted."""
        if not self._past:
            raise NothingToUndo("no call is left to revert")
        self._flow, self._events, self._now = self._past.pop()

    def fork(self):
        """An independent board in the same state, with the same past."""
        other = Board(self._layout, self._combos or None)
        other._flow = self._flow
        other._events = self._events
        other._now = self._now
        other._past = list(self._past)
        return other

    @property
    def record(self):
        """The events that went in."""
        return list(self._events)

    @property
    def now(self):
        """The tick of the last call, None if there was none."""
        return self._now

    @property
    def waiting(self):
        """How many downs wait in the gate and events in the row."""
        return len(self._flow.gate.downs) + len(self._flow.row.events)

    @property
    def layers(self):
        """The layers that are on behind the events that are done, ascending."""
        return self._flow.row.player.on_layers()

    @property
    def codes(self):
        """The codes that are down behind the events that are done, ascending."""
        return self._flow.row.player.down_codes()

    def __len__(self):
        return len(self._events)

    def __eq__(self, other):
        return (
            isinstance(other, Board) and self._layout == other._layout
            and self._combos == other._combos and self._events == other._events
            and self._now == other._now
        )

    def _check_key(self, key):
        """Raise InvalidKey unless the layout has this key."""
        if not is_between(key, 0, len(self._layout[0]) - 1):
            raise InvalidKey("the layout does not have this key")

    def _check_tick(self, tick):
        """Raise InvalidTick unless the clock can go on to this tick."""
        if not is_an_integer(tick):
            raise InvalidTick("not an integer")
        if self._now is not None and tick < self._now:
            raise InvalidTick("less than the tick of the last call")

    def _is_down(self, key):
        """Whether the key is down behind the events that went in."""
        ways = [event[2] for event in self._events if event[1] == key]
        return len(ways) > 0 and ways[-1] == "down"

    def _call(self, tick, events):
        """Let the clock go on to the tick, then the events come; return the outputs."""
        flow = self._flow.twin()
        out = flow.clock(tick)
        for event in events:
            out.extend(flow.come(event))
        self._past.append((self._flow, self._events, self._now))
        self._flow = flow
        self._events = self._events + events
        self._now = tick
        return out
