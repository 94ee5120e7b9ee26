"""Lateness: when the board does each event, and which dual held it."""

from holdtap.player import play
from holdtap.playing import check_playable


def done_ticks(layout, record):
    """For each event the tick at which the board does it."""
    check_playable(layout, record)
    return done_by(record, decisions(layout, record))


def held_by(layout, record):
    """For each event the number of the down of the dual that held it longest, or None."""
    check_playable(layout, record)
    decided = decisions(layout, record)
    return [
        None if done == event[0] else decided.index(done)
        for event, done in zip(record, done_by(record, decided))
    ]


def decisions(layout, record):
    """For each down of a dual the tick at which it is sure what it is; otherwise None."""
    _, told = play(layout, record)
    found = [None] * len(record)
    for at, (meaning, sure, output) in enumerate(told):
        if sure is not None:
            found[at] = record[sure][0]
        elif meaning is not None and meaning[1] != "plain":
            layer = meaning[0]
            tick, key, way = record[at]
            found[at] = tick + layout[layer][key][3]
    return found


def done_by(record, decided):
    """The done ticks of the events, from the decisions of the dual presses."""
    done = []
    for (tick, key, way), decision in zip(record, decided):
        latest = tick if decision is None else max(tick, decision)
        if done:
            latest = max(latest, done[-1])
        done.append(latest)
    return done
