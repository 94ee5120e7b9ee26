"""How events run through anything that has a clock: the row of the board, or the gate."""


def come_all(machine, events):
    """Let the events come at their ticks; return what comes out."""
    out = []
    for event in events:
        out.extend(machine.clock(event[0]))
        out.extend(machine.come(event))
    return out


def run_out(machine):
    """Let the clock go on until nothing waits; return what comes out."""
    out = []
    due = machine.due()
    while due is not None:
        out.extend(machine.clock(due))
        due = machine.due()
    return out
