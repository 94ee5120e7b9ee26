"""Slack: how far the ticks of a record can be moved before one of its kinds changes."""

from holdtap.errors import InvalidTick
from holdtap.integers import is_between
from holdtap.player import deciding_up, play
from holdtap.playing import check_playable
from holdtap.records import is_record, order_of

GREATEST_MOVE = 2 * 10 ** 15


def slack(layout, record):
    """How far each tick can be moved while all kinds stay, None if they always stay."""
    check_playable(layout, record)
    turn = first_turn(layout, record)
    return None if turn is None else turn[0] - 1


def shaken(layout, record):
    """The record with other kinds, each tick moved by at most slack + 1; None without a slack."""
    check_playable(layout, record)
    turn = first_turn(layout, record)
    if turn is None:
        return None
    move, down, up, kind = turn
    if kind == "tap":
        return stretched(record, down, up, move)
    return squeezed(record, down, up, move)


def is_shaken(layout, record, value, most):
    """Whether any value is the record with other kinds, each tick moved by at most so many."""
    check_playable(layout, record)
    if not is_between(most, 0, GREATEST_MOVE):
        raise InvalidTick("the most is an integer from 0 to 2 * 10 ** 15")
    if not is_record(value) or order_of(value) != order_of(record):
        return False
    if any([abs(moved[0] - event[0]) > most for moved, event in zip(value, record)]):
        return False
    return kinds(layout, value) != kinds(layout, record)


def kinds(layout, record):
    """For each down of a checked record "tap", "hold" or "plain"."""
    _, told = play(layout, record)
    return [meaning[1] for meaning, sure, output in told if meaning is not None]


def first_turn(layout, record):
    """The press that turns with the least move, as (move, down, up, kind); None without one.

    The first kind that changes is one of a press that is played as before up to there. So only
    the presses of duals count that the record has now, and of these those that their ups decide.
    """
    _, told = play(layout, record)
    turns = []
    for down, (meaning, sure, output) in enumerate(told):
        if meaning is None or meaning[1] == "plain":
            continue
        dual = layout[meaning[0]][record[down][1]]
        up = deciding_up(record, down, dual)
        if up is not None:
            length = record[up][0] - record[down][0]
            turns.append((move_that_turns(length, dual[3]), down, up, meaning[1]))
    return min(turns, default=None)


def move_that_turns(length, time):
    """How far both ends of a press of this length have to be moved until it is another kind."""
    ticks = time - length if length < time else length - time + 1
    return (ticks + 1) // 2


def stretched(record, down, up, move):
    """The record with a longer press: the ends move apart, with all events beyond them."""
    moves = [-move if at <= down else move if at >= up else 0 for at in range(len(record))]
    return [(tick + by, key, way) for (tick, key, way), by in zip(record, moves)]


def squeezed(record, down, up, move):
    """The record with a shorter press: the ends move together, and push the events between them."""
    low = record[down][0] + move
    high = max(low, record[up][0] - move)
    pushed = [(min(max(tick, low), high), key, way) for tick, key, way in record[down:up + 1]]
    return record[:down] + pushed + record[up + 1:]
