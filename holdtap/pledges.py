"""Pledges: what the presses that are down need of the events to come.

A search plays each press of a dual at its down, as a tap or as a hold. What this needs of the
later events is the pledge of the press: (least, most, downs, ups, behind). From now on the key
stays down for at least and for at most so many ticks (None: any number). Until its up, another
key never goes down, or has to go down, or it is all one; the same for ups of keys that went down
behind it, and behind are those of them that are down. The hands are a tuple with an item for
each key: its pledge if it is down, None if it is up.
"""

ANY = 0
MUST = 1
NEVER = 2
FREE = (0, None, ANY, ANY, ())


def pledges_for(dual, kind):
    """The pledges of which one is needed if a press of the dual is of this kind."""
    time, rule = dual[3], dual[4]
    if kind == "tap":
        never_down = NEVER if rule == "other" else ANY
        never_up = NEVER if rule == "within" else ANY
        return [(0, time - 1, never_down, never_up, ())]
    held = [(time, None, ANY, ANY, ())]
    if rule == "other":
        held.append((0, None, MUST, ANY, ()))
    if rule == "within":
        held.append((0, None, ANY, MUST, ()))
    return held


def both_pledges(first, second):
    """The pledge of a new press that holds both of these, None if they exclude one another."""
    least, most = max(first[0], second[0]), first[1]
    if most is None or (second[1] is not None and second[1] < most):
        most = second[1]
    if most is not None and least > most:
        return None
    if not agree(first[2], second[2]) or not agree(first[3], second[3]):
        return None
    return (least, most, max(first[2], second[2]), max(first[3], second[3]), ())


def agree(first, second):
    """Whether both of these can hold of the same events."""
    return first == second or ANY in (first, second)


def hands_after_tick(hands):
    """The hands a tick later, None if a key has to go up at this tick."""
    later = []
    for pledge in hands:
        if pledge is not None:
            least, most, downs, ups, behind = pledge
            if most == 0:
                return None
            pledge = (max(0, least - 1), None if most is None else most - 1, downs, ups, behind)
        later.append(pledge)
    return tuple(later)


def hands_after_down(hands, key, pledge):
    """The hands behind a down of the key with this pledge, None if the pledge of another bars it."""
    later = list(hands)
    for other, held in enumerate(hands):
        if held is not None:
            least, most, downs, ups, behind = held
            if downs == NEVER:
                return None
            behind = behind if ups == ANY else behind + (key,)
            later[other] = (least, most, ANY, ups, behind)
    later[key] = pledge
    return tuple(later)


def hands_after_up(hands, key):
    """The hands behind an up of the key, None if its own pledge or that of another bars it."""
    least, most, downs, ups, behind = hands[key]
    if least > 0 or downs == MUST or ups == MUST:
        return None
    later = list(hands)
    for other, held in enumerate(hands):
        if held is not None and key in held[4]:
            if held[3] == NEVER:
                return None
            later[other] = (held[0], held[1], held[2], ANY, ())
    later[key] = None
    return tuple(later)
