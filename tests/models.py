"""Slow models of the program that follow the words of the document, and values to try them on."""

import random

CODES = ["a", "b", "c"]
RULES = ["time", "other", "within"]


def deciding(record, at, rule):
    """The number of the deciding event of the press at this down, or None."""
    key = record[at][1]
    behind = range(at + 1, len(record))
    found = [number for number in behind if record[number][1:] == (key, "up")][:1]
    if rule == "other":
        found += [n for n in behind if record[n][2] == "down" and record[n][1] != key][:1]
    if rule == "within":
        found += [
            n for n in behind
            if record[n][2] == "up" and record[n][1] != key and down_of(record, n) > at
        ][:1]
    return min(found, default=None)


def down_of(record, up):
    """The number of the down that belongs to this up."""
    return max(n for n in range(up) if record[n][1:] == (record[up][1], "down"))


def is_on(record, whats, layer):
    """Whether the layer is on behind as many events as whats has items."""
    downs = [n for n in range(len(whats)) if record[n][2] == "down"]
    if layer == 0 or [whats[n] for n in downs].count(("lock", layer)) % 2 == 1:
        return True
    if downs and whats[downs[-1]] == ("once", layer):
        return True
    return any(
        whats[n] == ("layer", layer) and (record[n][1], "up") not in
        [event[1:] for event in record[n:len(whats)]]
        for n in downs
    )


def action_for(layout, record, whats):
    """The layer and the action that the down behind as many events as whats has items takes."""
    key = record[len(whats)][1]
    for layer in reversed(range(len(layout))):
        if is_on(record, whats, layer) and layout[layer][key] != "through":
            return layer, layout[layer][key]


def meaning_of(layout, record, whats):
    """The meaning (layer, kind, what) of the down behind as many events as whats has items."""
    layer, action = action_for(layout, record, whats)
    if action[0] != "dual":
        return layer, "plain", action
    at = len(whats)
    word, tap, hold, time, rule = action
    decider = deciding(record, at, rule)
    if decider is None or record[decider][1:] != (record[at][1], "up"):
        return layer, "hold", hold
    if record[decider][0] < record[at][0] + time:
        return layer, "tap", ("code", tap)
    return layer, "hold", hold


def meanings(layout, record):
    found, whats = [], []
    for at, event in enumerate(record):
        found.append(meaning_of(layout, record, whats) if event[2] == "down" else None)
        whats.append(found[-1] and found[-1][2])
    return found


def output_of(record, whats, at):
    """The output of an event, from what the downs up to it do."""
    down = at if record[at][2] == "down" else down_of(record, at)
    if whats[down][0] != "code":
        return ()
    return ("press" if down == at else "release", whats[down][1])


def played(layout, record):
    whats = [meaning and meaning[2] for meaning in meanings(layout, record)]
    return [output_of(record, whats, at) for at in range(len(record))]


def layers_on(layout, record):
    whats = [meaning and meaning[2] for meaning in meanings(layout, record)]
    return [layer for layer in range(len(layout)) if is_on(record, whats, layer)]


def codes_down(layout, record):
    outputs = played(layout, record)
    return [
        code for code in CODES
        if outputs.count(("press", code)) > outputs.count(("release", code))
    ]


def board(layout, record):
    """The tick at which the board does each event, tick by tick."""
    if not record:
        return []
    whats, done = [], []

    def look(now, come):
        while len(done) < come:
            at = len(done)
            tick, key, way = record[at]
            if way == "up":
                whats.append(None)
            else:
                layer, action = action_for(layout, record, whats)
                kind = "plain"
                if action[0] == "dual":
                    kind = sure_kind(record[:come], at, action, now)
                    if kind is None:
                        return
                    action = ("code", action[1]) if kind == "tap" else action[2]
                whats.append(action)
            done.append(now)

    come, now = 0, record[0][0]
    while len(done) < len(record):
        look(now, come)
        while come < len(record) and record[come][0] == now:
            come += 1
            look(now, come)
        now += 1
    return done


def sure_kind(come, at, dual, now):
    """What the first one of the waiting events, a dual, surely is; None if it is not sure."""
    decider = deciding(come, at, dual[4])
    end = come[at][0] + dual[3]
    if decider is not None and come[decider][0] < end:
        return "tap" if come[decider][1] == come[at][1] else "hold"
    return "hold" if now >= end else None


def some_action(chance, layer, layers, rules=RULES, times=9):
    codes = [("code", code) for code in CODES]
    others = [(word, j) for j in range(1, layers) for word in ("layer", "lock", "once")]
    holds = codes + [("layer", j) for j in range(1, layers)] * 2
    dual = (
        "dual", chance.choice(CODES), chance.choice(holds), chance.randint(1, times),
        chance.choice(rules),
    )
    through = ["through"] * 3 if layer else []
    return chance.choice([dual] * 6 + codes + others + through + ["none"])


def some_layout(chance, most_keys=4, most_layers=3, rules=RULES, times=9):
    layers, keys = chance.randint(1, most_layers), chance.randint(1, most_keys)
    return [
        [some_action(chance, layer, layers, rules, times) for _ in range(keys)]
        for layer in range(layers)
    ]


def some_order(chance, keys, many):
    order, held = [], []
    for _ in range(many):
        key = chance.randrange(keys)
        order.append((key, "up" if key in held else "down"))
        held = [k for k in held if k != key] + [key] * (key not in held)
    return order


def some_record(chance, keys, many, steps=(0, 0, 1, 1, 2, 3, 5)):
    tick, record = chance.randint(-5, 5), []
    for key, way in some_order(chance, keys, many):
        tick += chance.choice(steps)
        record.append((tick, key, way))
    return record


def some_plays(seed, times, most_events=14):
    """Layouts with records of them, the same ones at each run."""
    chance = random.Random(seed)
    for _ in range(times):
        layout = some_layout(chance)
        yield layout, some_record(chance, len(layout[0]), chance.randint(0, most_events))
