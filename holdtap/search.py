"""A search through all records, ordered by how many events they have."""

from holdtap.pledges import hands_after_down, hands_after_tick, hands_after_up


def shortest_record(goal, many):
    """A whole record of so many keys that reaches the goal with as few events as possible, or None.

    The goal tells what a record has done so far by a state: start() is the first one,
    ways_down(state, key) has the tuples (state, pledge) behind a down of the key,
    after_up(state, key) the state behind an up, and is_reached(state) whether it is reached.
    """
    start = (goal.start(), (None,) * many)
    came = {start: None}
    level = [start]
    while level:
        # A tick costs no event: first all that can be reached with as many events as so far.
        level = with_ticks_between(level, came)
        ahead = []
        for node in level:
            if goal.is_reached(node[0]) and all_up(node[1]):
                return record_of(came, node)
            for step, follower in followers(goal, node):
                if follower not in came:
                    came[follower] = (node, step)
                    ahead.append(follower)
        level = ahead
    return None


def all_up(hands):
    """Whether all keys are up."""
    return all([pledge is None for pledge in hands])


def with_ticks_between(level, came):
    """The nodes of a level and those that are new with only ticks behind them."""
    found = list(level)
    rest = list(level)
    while rest:
        node = rest.pop()
        state, hands = node
        later = hands_after_tick(hands)
        if later is not None and (state, later) not in came:
            came[state, later] = (node, None)
            found.append((state, later))
            rest.append((state, later))
    return found


def followers(goal, node):
    """The steps (key, way) that can follow at this tick, each with the node behind it."""
    state, hands = node
    found = []
    for key, pledge in enumerate(hands):
        if pledge is None:
            for following, wanted in goal.ways_down(state, key):
                later = hands_after_down(hands, key, wanted)
                if later is not None:
                    found.append(((key, "down"), (following, later)))
        else:
            later = hands_after_up(hands, key)
            if later is not None:
                found.append(((key, "up"), (goal.after_up(state, key), later)))
    return found


def record_of(came, node):
    """The record that leads to a node."""
    steps = []
    while came[node] is not None:
        node, step = came[node]
        steps.append(step)
    tick, record = 0, []
    for step in reversed(steps):
        if step is None:
            tick = tick + 1
        else:
            record.append((tick, step[0], step[1]))
    return record
