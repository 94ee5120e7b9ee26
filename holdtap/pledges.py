"""Pledges: what the presses that are down need of the events to come.

A search plays each press of a dual at its down, as a tap or as a hold. What this needs of the
later events is the pledge of the press: (least, most, downs, ups, behind). From now on the key
stays down for at least and for at most so many ticks (None: any number). Until its up, another
key "never" goes down, or it "must" go down, or "any" of the two; the same for ups of keys that
went down behind it, and behind are those of them that are down. The hands are a tuple with an
item for each key: its pledge if it is down, None if it is up.
"""

FREE = (0, None, "any", "any", ())


def pledges_for(dual, kind):
    """The pledges of which one is needed if a press of the dual is of this kind."""
    time, rule = dual[3], dual[4]
    if kind == "tap":
        downs = "never" if rule == "other" else "any"
        ups = "never" if rule == "within" else "any"
        return [(0, time - 1, downs, ups, ())]
    held = [(time, None, "any", "any", ())]
    if rule == "other":
        held.append((0, None, "must", "any", ()))
    if rule == "within":
        held.append((0, None, "any", "must", ()))
    return held


def both_pledges(first, second):
    """The pledge of a new press that holds both of these, None if they exclude one another."""
    least = max(first[0], second[0])
    most = min([pledge[1] for pledge in (first, second) if pledge[1] is not None], default=None)
    downs = both_words(first[2], second[2])
    ups = both_words(first[3], second[3])
    if downs is None or ups is None or (most is not None and least > most):
        return None
    return (least, most, downs, ups, ())


def both_words(first, second):
    """The word for events for which both words hold, None if they exclude one another."""
    if first == "any":
        return second
    return first if second in ("any", first) else None


def hands_after_tick(hands):
    """The hands a tick later, None if a key has to go up at this tick."""
    later = []
    for pledge in hands:
        if pledge is not None:
            least, most, downs, ups, behind = pledge
            if most == 0:
                return None
            pledge = (max(0, least - 1), None if most is None else most - 1, downs, ups, behind)
        later.append(pledge)
    return tuple(later)


def hands_after_down(hands, key, pledge):
    """The hands behind a down of the key with this pledge, None if the pledge of another bars it."""
    later = list(hands)
    for other, held in enumerate(hands):
        if held is not None:
            least, most, downs, ups, behind = held
            if downs == "never":
                return None
            behind = behind if ups == "any" else behind + (key,)
            later[other] = (least, most, "any", ups, behind)
    later[key] = pledge
    return tuple(later)


def hands_after_up(hands, key):
    """The hands behind an up of the key, None if its own pledge or that of another bars it."""
    least, most, downs, ups, behind = hands[key]
    if least > 0 or "must" in (downs, ups):
        return None
    later = list(hands)
    for other, held in enumerate(hands):
        if held is not None and key in held[4]:
            if held[3] == "never":
                return None
            later[other] = (held[0], held[1], held[2], "any", ())
    later[key] = None
    return tuple(later)
