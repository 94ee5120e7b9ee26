"""Small layouts to try, and all short records of them."""

import functools
import itertools

from holdtap.playing import played
from tests import models


def some_small_layout(chance, keys=2, layers=2, times=4):
    """A layout with at most two keys that have a dual in some layer."""
    dual_keys = chance.sample(range(keys), min(keys, 2))
    layout = []
    for layer in range(layers):
        row = [models.some_action(chance, layer, layers, times=times) for _ in range(keys)]
        for key in range(keys):
            while key not in dual_keys and row[key][0] == "dual":
                row[key] = models.some_action(chance, layer, layers, times=times)
        layout.append(row)
    return layout


def some_change(chance, layout, times=4):
    """The layout with one other action, or with another time or rule of a dual."""
    layer, key = chance.randrange(len(layout)), chance.randrange(len(layout[0]))
    action = layout[layer][key]
    changed = [list(row) for row in layout]
    if action[0] == "dual":
        word, tap, hold, time, rule = action
        changed[layer][key] = chance.choice([
            (word, tap, hold, chance.randint(1, times), rule), (word, tap, hold, time, chance.choice(models.RULES)),
            (word, chance.choice(models.CODES), hold, time, rule),
        ])
    else:
        others = [("code", code) for code in models.CODES] + ["none"]
        others += [(word, j) for j in range(1, len(layout)) for word in ("layer", "lock", "once")]
        changed[layer][key] = chance.choice(others + ["through"] * (layer > 0))
    return changed


@functools.lru_cache(maxsize=None)
def whole_orders(keys, many):
    """All orders of so many events behind which all keys are up."""
    found = []
    for pressed in itertools.product(range(keys), repeat=many):
        if all(pressed.count(key) % 2 == 0 for key in range(keys)):
            found.append([
                (key, "up" if pressed[:at].count(key) % 2 else "down") for at, key in enumerate(pressed)
            ])
    return found


def whole_records(keys, many, most):
    """All whole records of so many events, neighbours at most so many ticks apart.

    With distances up to the greatest time of a layout, that are all that it can tell apart.
    """
    for order in whole_orders(keys, many):
        for steps in itertools.product(range(most + 1), repeat=max(0, many - 1)):
            ticks = itertools.accumulate(steps, initial=0)
            yield [(tick, key, way) for tick, (key, way) in zip(ticks, order)]


def parting(layout, other, most_events, most_step):
    """How many events the shortest whole record has that parts the layouts, None if it has more."""
    for many in range(0, most_events + 1, 2):
        for record in whole_records(len(layout[0]), many, most_step):
            if played(layout, record) != played(other, record):
                return many
    return None
