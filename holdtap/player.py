"""What the keys do: the layers, the bound keys and the codes behind the events that are done."""

from holdtap.layouts import is_dual

NO_LAYER = 0


class Player:
    """A keyboard with a layout at which no key is bound, until events are done on it."""

    def __init__(self, layout):
        self.layout = layout
        self.locked = [False] * len(layout)
        # Only one layer can wait: the down that lets a layer wait ends any other waiting.
        self.once = NO_LAYER
        self.bound = {}
        self.pressed = {}

    def twin(self):
        """Another player in the same state."""
        other = Player(self.layout)
        other.locked = list(self.locked)
        other.once = self.once
        other.bound = dict(self.bound)
        other.pressed = dict(self.pressed)
        return other

    def is_on(self, layer):
        """Whether the layer is on."""
        if layer == 0 or self.locked[layer] or self.once == layer:
            return True
        return ("layer", layer) in list(self.bound.values())

    def on_layers(self):
        """The layers that are on, ascending."""
        return [layer for layer in range(len(self.layout)) if self.is_on(layer)]

    def down_codes(self):
        """The codes that are down, ascending."""
        return sorted([code for code, many in self.pressed.items() if many > 0])

    def taken(self, key):
        """The layer whose action a down of the key takes now, and the action."""
        layer = max([
            at for at, actions in enumerate(self.layout)
            if actions[key] != "through" and self.is_on(at)
        ])
        return layer, self.layout[layer][key]

    def press(self, key, what):
        """Do a down of the key that means this action, which is no dual; return the output."""
        self.once = NO_LAYER
        if what == "none":
            return ()
        word, about = what
        if word == "code":
            self.bound[key] = what
            self.pressed[about] = self.pressed.get(about, 0) + 1
            return ("press", about)
        if word == "layer":
            self.bound[key] = what
        elif word == "lock":
            self.locked[about] = not self.locked[about]
        else:
            self.once = about
        return ()

    def release(self, key):
        """Do an up of the key; return the output."""
        word, about = self.bound.pop(key, ("none", NO_LAYER))
        if word != "code":
            return ()
        self.pressed[about] = self.pressed[about] - 1
        return ("release", about)


def deciding_event(record, at, rule):
    """The number of the event that decides the press of a dual whose down has the number at."""
    own = record[at][1]
    inner = []
    for number in range(at + 1, len(record)):
        tick, key, way = record[number]
        if key == own or (rule == "other" and way == "down"):
            return number
        if way == "down":
            inner.append(key)
        elif rule == "within" and key in inner:
            return number
    return None


def deciding_up(record, at, dual):
    """The number of the up of the press of a dual if that is its deciding event; otherwise None."""
    number = deciding_event(record, at, dual[4])
    if number is None or record[number][1] != record[at][1]:
        return None
    return number


def sure_event(record, at, dual):
    """The number of the deciding event if it comes before the time of the dual is over."""
    number = deciding_event(record, at, dual[4])
    if number is None or record[number][0] >= record[at][0] + dual[3]:
        return None
    return number


def dual_kind(record, at, sure):
    """Whether the press of a dual is a tap or a hold, from its sure event."""
    if sure is not None and record[sure][1] == record[at][1]:
        return "tap"
    return "hold"


def what_is_done(action, kind):
    """What a press of this kind does."""
    if kind == "plain":
        return action
    if kind == "tap":
        return ("code", action[1])
    return action[2]


def play(layout, record):
    """Play a record: the player behind it, and for each event its meaning, sure event and output."""
    player = Player(layout)
    told = []
    for at, (tick, key, way) in enumerate(record):
        if way == "up":
            told.append((None, None, player.release(key)))
            continue
        layer, action = player.taken(key)
        sure, kind = None, "plain"
        if is_dual(action):
            sure = sure_event(record, at, action)
            kind = dual_kind(record, at, sure)
        what = what_is_done(action, kind)
        told.append(((layer, kind, what), sure, player.press(key, what)))
    return player, told
