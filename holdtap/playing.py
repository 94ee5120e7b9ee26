"""Playing: what a record gives with a layout, when the whole record is known ahead."""

from holdtap.layouts import check_layout
from holdtap.outputs import outputs_alone
from holdtap.player import play
from holdtap.records import check_record


def played(layout, record):
    """The output of each event, () for an event that has none."""
    check_playable(layout, record)
    _, told = play(layout, record)
    return [output for meaning, sure, output in told]


def flat(layout, record):
    """The outputs alone."""
    return outputs_alone(played(layout, record))


def meanings(layout, record):
    """For each down (layer, kind, what) as it is played; None for each up."""
    check_playable(layout, record)
    _, told = play(layout, record)
    return [meaning for meaning, sure, output in told]


def sure_by(layout, record):
    """For each down of a dual its deciding event, if that comes in time; otherwise None."""
    check_playable(layout, record)
    _, told = play(layout, record)
    return [sure for meaning, sure, output in told]


def layers_on(layout, record):
    """The layers that are on behind the record, ascending."""
    check_playable(layout, record)
    player, _ = play(layout, record)
    return player.on_layers()


def codes_down(layout, record):
    """The codes that are down behind the record, ascending."""
    check_playable(layout, record)
    player, _ = play(layout, record)
    return player.down_codes()


def check_playable(layout, record):
    """Raise InvalidLayout or InvalidRecord unless this is a layout and a record of it."""
    check_layout(layout)
    check_record(record, len(layout[0]))
