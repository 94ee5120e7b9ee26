"""The gate: it joins keys that are pressed together, ahead of the row of the board."""


class Gate:
    """A gate with a clock for so many keys: events come in, those with own keys of combos leave."""

    def __init__(self, many, combos):
        self.many = many
        self.combos = combos
        self.downs = []
        # For each key whose down has left: the key as which it left, None if its up vanishes.
        self.sent = {}

    def twin(self):
        """Another gate in the same state."""
        other = Gate(self.many, self.combos)
        other.downs = list(self.downs)
        other.sent = dict(self.sent)
        return other

    def due(self):
        """The tick from which on the row of downs is over; None without a row."""
        if not self.downs:
            return None
        keys = [key for tick, key in self.downs]
        times = [combo[1] for combo in self.combos if len(combo[0]) > len(keys) and has_all(combo, keys)]
        return self.downs[0][0] + max(times, default=0)

    def clock(self, tick):
        """Let the clock go on to the tick; return the events that leave."""
        out = []
        due = self.due()
        while due is not None and due <= tick:
            out.extend(self.let_leave(due))
            due = self.due()
        return out

    def come(self, event):
        """Let an event come at its tick, behind the clock; return the events that leave."""
        tick, key, way = event
        if way == "up":
            return self.come_up(tick, key)
        # A row with a down that no combo fits is over, and each of its first pieces is one of the
        # row ahead of the down: so they leave, until the down fits or stands alone.
        self.downs.append((tick, key))
        return self.let_leave(tick)

    def come_up(self, tick, key):
        """Let an up come: the whole row leaves ahead of it."""
        out = []
        while self.downs:
            out.append(self.send_piece(tick))
        sent = self.sent.pop(key)
        if sent is None:
            return out
        for other in list(self.sent):
            if self.sent[other] == sent:
                self.sent[other] = None
        return out + [(tick, sent, "up")]

    def let_leave(self, now):
        """Let pieces leave at this tick until the row is not over."""
        out = []
        while self.downs and self.due() <= now:
            out.append(self.send_piece(now))
        return out

    def send_piece(self, now):
        """Take the first piece off the row; return the down as which it leaves at this tick."""
        size, index = first_piece(self.downs, self.combos)
        sent = self.downs[0][1] if index is None else self.many + index
        for _, key in self.downs[:size]:
            self.sent[key] = sent
        self.downs = self.downs[size:]
        return (now, sent, "down")


def has_all(combo, keys):
    """Whether all of the keys are keys of the combo."""
    return all([key in combo[0] for key in keys])


def first_piece(downs, combos):
    """How many of these downs (tick, key) the first piece has, and the index of its combo or None."""
    for size in (3, 2):
        keys = sorted([key for tick, key in downs[:size]])
        for index, combo in enumerate(combos):
            if len(combo[0]) == size and list(combo[0]) == keys:
                if downs[size - 1][0] < downs[0][0] + combo[1]:
                    return size, index
    return 1, None
