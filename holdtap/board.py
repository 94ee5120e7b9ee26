"""The board: what a record gives with a clock, and which events wait at a tick."""

from holdtap.clocked import come_all, run_out
from holdtap.errors import InvalidTick
from holdtap.integers import is_an_integer
from holdtap.playing import check_playable
from holdtap.row import Row


def outputs(layout, record):
    """The outputs (tick, word, code), each with the tick at which its event is done."""
    check_playable(layout, record)
    row = Row(layout)
    return come_all(row, record) + run_out(row)


def walk_outputs(layout, record):
    """The same outputs, one by one."""
    for output in outputs(layout, record):
        yield output


def waiting_at(layout, record, tick):
    """The numbers of the events that have come and are not done when the tick is over."""
    check_playable(layout, record)
    if not is_an_integer(tick):
        raise InvalidTick("not an integer")
    come = [event for event in record if event[0] <= tick]
    row = Row(layout)
    come_all(row, come)
    row.clock(tick)
    return list(range(len(come) - len(row.events), len(come)))
