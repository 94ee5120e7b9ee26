"""What counts as an integer."""


def is_an_integer(value):
    """Whether any value is an integer; True and False are none."""
    return isinstance(value, int) and not isinstance(value, bool)


def is_between(value, low, high):
    """Whether any value is an integer from low to high."""
    return is_an_integer(value) and low <= value <= high


def are_ascending(values, many):
    """Whether each item of a list or tuple is an integer from 0 on, below many, above the one before."""
    if not all([is_between(value, 0, many - 1) for value in values]):
        return False
    return all([values[at - 1] < values[at] for at in range(1, len(values))])
