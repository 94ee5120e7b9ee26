"""Values of many kinds, for functions that judge any value."""


class EqualToAll:
    """Says that it is equal to everything, and so is nothing in particular."""

    def __eq__(self, other):
        return True

    __hash__ = None


OTHER_KINDS = [
    None, True, False, 0, 1, -1, 1.0, float("nan"), "", "none", "down", b"none",
    (), (1,), {}, {0: "none"}, {"none"}, frozenset(), range(2), object(), len, EqualToAll(),
]
