"""The errors of the package: each one is a direct subclass of HoldError."""


class HoldError(ValueError):
    """The base of all errors."""


class InvalidKey(HoldError):
    """A value is not a key, or not keys, that can be meant here."""


class InvalidTick(HoldError):
    """A value is not a tick, or not ticks, that can come here."""


class InvalidPlace(HoldError):
    """A value does not number a place that can be meant here."""


class InvalidGap(HoldError):
    """A value is not a distance of neighbouring events."""


class InvalidChoice(HoldError):
    """A value is not a choice of the order."""


class InvalidWishes(HoldError):
    """A value is not a list of wishes."""


class InvalidLate(HoldError):
    """A value does not tell how late events can be."""


class InvalidCodes(HoldError):
    """A value is not a list of codes."""


class InvalidBounds(HoldError):
    """A value is not a list of bounds, or its bounds cannot be fulfilled."""


class InvalidCommand(HoldError):
    """A value is not a command that can be run now."""


class NothingToUndo(HoldError):
    """No call is left to revert."""


class InvalidLayout(HoldError):
    """A value is not a layout; both fields are None if it has not even the form of one."""

    def __init__(self, layer, key):
        super().__init__(f"not a layout: layer {layer}, key {key}")
        self.layer = layer
        self.key = key


class InvalidRecord(HoldError):
    """A value is not a record; the index is None if it is not a list of so many items."""

    def __init__(self, index):
        super().__init__(f"not a record: index {index}")
        self.index = index


class InvalidOrder(HoldError):
    """A value is not an order; the index is None if it is not a list of so many items."""

    def __init__(self, index):
        super().__init__(f"not an order: index {index}")
        self.index = index


class InvalidCombos(HoldError):
    """A value is not combos; the index is None if it is not a list of so many items."""

    def __init__(self, index):
        super().__init__(f"not combos: index {index}")
        self.index = index


class InvalidText(HoldError):
    """A value is not such a text; both fields are None if it has not even the form of one."""

    def __init__(self, line, word):
        super().__init__(f"not such a text: line {line}, word {word}")
        self.line = line
        self.word = word


class TooLarge(HoldError):
    """An argument is larger than the limit of this function."""

    def __init__(self, limit):
        super().__init__(f"too large: the limit is {limit}")
        self.limit = limit
