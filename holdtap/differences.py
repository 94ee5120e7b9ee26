"""Bounds on differences: the least numbers that fulfil them, or a ring of bounds if none do."""

from holdtap.errors import InvalidBounds, InvalidPlace
from holdtap.integers import is_an_integer, is_between

MOST_NUMBERS = 50
MOST_BOUNDS = 400
MOST_RING = 400


def is_bounds(value, many):
    """Whether any value is a list of bounds for so many numbers."""
    if not is_between(many, 1, MOST_NUMBERS):
        return False
    if not isinstance(value, list) or len(value) > MOST_BOUNDS:
        return False
    return all([is_bound(bound, many) for bound in value])


def holds(many, bounds, numbers):
    """Whether any value is a list of so many integers that fulfil all bounds."""
    check_bounds(many, bounds)
    if not isinstance(numbers, list) or len(numbers) != many:
        return False
    if not all([is_an_integer(number) for number in numbers]):
        return False
    return all([numbers[j] >= numbers[i] + d for i, j, d in bounds])


def least_numbers(many, bounds):
    """The least numbers from 0 on that fulfil all bounds, None if there are none."""
    check_bounds(many, bounds)
    return least_above([0] * many, bounds)


def ring_of(many, bounds):
    """A ring of the bounds, None if there is none."""
    check_bounds(many, bounds)
    return find_ring(many, bounds)


def is_ring(many, bounds, value):
    """Whether any value is a ring of the bounds."""
    check_bounds(many, bounds)
    if not isinstance(value, list) or not 1 <= len(value) <= MOST_RING:
        return False
    if not all([is_between(index, 0, len(bounds) - 1) for index in value]):
        return False
    ring = [bounds[index] for index in value]
    # Behind the first bound stands, at index -1, the last one: the first has to begin there.
    if not all([ring[at][0] == ring[at - 1][1] for at in range(len(ring))]):
        return False
    return sum([d for i, j, d in ring]) > 0


def least_difference(many, bounds, i, j):
    """The greatest d such that number j is always at least number i plus d, or None."""
    check_bounds(many, bounds)
    if find_ring(many, bounds) is not None:
        raise InvalidBounds("no numbers fulfil the bounds")
    if not is_between(i, 0, many - 1):
        raise InvalidPlace("there is no number i")
    if not is_between(j, 0, many - 1):
        raise InvalidPlace("there is no number j")
    return greatest_sums(many, bounds, i)[j]


def least_above(numbers, bounds):
    """The least numbers, none of them below these, that fulfil all bounds; None if there are none."""
    least = list(numbers)
    # Without a ring no number is raised any more in a pass behind as many as there are numbers.
    for _ in range(len(least) + 1):
        raised = False
        for i, j, d in bounds:
            if least[i] + d > least[j]:
                least[j] = least[i] + d
                raised = True
        if not raised:
            return least
    return None


def find_ring(many, bounds):
    """A ring of checked bounds, None if there is none."""
    numbers = [0] * many
    raised_by = [None] * many
    last = None
    for _ in range(many):
        last = None
        for index, (i, j, d) in enumerate(bounds):
            if numbers[i] + d > numbers[j]:
                numbers[j] = numbers[i] + d
                raised_by[j] = index
                last = j
        if last is None:
            return None
    return None if last is None else ring_behind(bounds, raised_by, last)


def ring_behind(bounds, raised_by, number):
    """The ring that raised a number in as many passes as there are numbers."""
    # The way back leads onto the ring in fewer steps than there are numbers, and stays on it.
    for _ in range(len(raised_by)):
        number = bounds[raised_by[number]][0]
    ring = [raised_by[number]]
    at = bounds[ring[0]][0]
    while at != number:
        ring.append(raised_by[at])
        at = bounds[raised_by[at]][0]
    return ring[::-1]


def greatest_sums(many, bounds, start):
    """For each number the greatest sum of a chain of bounds from the start to it, None without one."""
    sums = [None] * many
    sums[start] = 0
    for _ in range(many):
        for i, j, d in bounds:
            if sums[i] is not None and (sums[j] is None or sums[i] + d > sums[j]):
                sums[j] = sums[i] + d
    return sums


def check_bounds(many, bounds):
    """Raise InvalidPlace or InvalidBounds unless these are bounds for so many numbers."""
    if not is_between(many, 1, MOST_NUMBERS):
        raise InvalidPlace("there are 1 to 50 numbers")
    if not is_bounds(bounds, many):
        raise InvalidBounds("not a list of bounds for so many numbers")


def is_bound(value, many):
    """Whether any value is a bound for so many numbers."""
    if not isinstance(value, tuple) or len(value) != 3:
        return False
    i, j, d = value
    return is_between(i, 0, many - 1) and is_between(j, 0, many - 1) and is_an_integer(d)
