"""Combos: keys that are pressed together and count as a key of their own."""

from holdtap.clocked import come_all, run_out
from holdtap.errors import InvalidCombos, InvalidKey, TooLarge
from holdtap.gate import Gate, first_piece
from holdtap.integers import are_ascending, is_between
from holdtap.layouts import check_layout, is_code
from holdtap.records import check_record

MOST_BOARD_KEYS = 10
MOST_COMBOS = 6
GREATEST_COMBO_TIME = 10 ** 9


def is_combos(value, many):
    """Whether any value is combos for so many keys."""
    check_many(many)
    try:
        check_combos(value, many)
    except InvalidCombos:
        return False
    return True


def pieces(many, combos, record):
    """The pieces of the record, each one the list of the numbers of its downs."""
    check_gate(many, combos, record)
    found, run = [], []
    for number, event in enumerate(record):
        if event[2] == "down":
            run.append(number)
        else:
            found.extend(cut(record, run, combos))
            run = []
    return found + cut(record, run, combos)


def gated(many, combos, record):
    """The record that leaves the gate."""
    check_gate(many, combos, record)
    gate = Gate(many, combos)
    return come_all(gate, record) + run_out(gate)


def with_combos(layout, combos):
    """The layout with the own keys of the combos behind its keys."""
    check_layout(layout)
    check_combos_of(layout, combos)
    return joined(layout, combos)


def joined(layout, combos):
    """The checked layout with the own keys of checked combos."""
    codes = [("code", combo[2]) for combo in combos]
    through = ["through"] * len(combos)
    return [layout[0] + codes] + [actions + through for actions in layout[1:]]


def cut(record, numbers, combos):
    """The pieces of a run, which is given by the numbers of its downs."""
    found, rest = [], numbers
    while rest:
        downs = [(record[number][0], record[number][1]) for number in rest]
        size, _ = first_piece(downs, combos)
        found.append(rest[:size])
        rest = rest[size:]
    return found


def check_gate(many, combos, record):
    """Raise InvalidKey, InvalidCombos or InvalidRecord for the first wrong argument."""
    check_many(many)
    check_combos(combos, many)
    check_record(record, many)


def check_many(many):
    """Raise InvalidKey unless a board with combos can have so many keys."""
    if not is_between(many, 1, MOST_BOARD_KEYS):
        raise InvalidKey("a board with combos has 1 to 10 keys")


def check_combos_of(layout, combos):
    """Raise TooLarge or InvalidCombos unless these are combos for the keys of the layout."""
    if len(layout[0]) > MOST_BOARD_KEYS:
        raise TooLarge(MOST_BOARD_KEYS)
    check_combos(combos, len(layout[0]))


def check_combos(value, many):
    """Raise InvalidCombos, with the first wrong index, unless the value is combos for so many keys."""
    if not isinstance(value, list) or len(value) > MOST_COMBOS:
        raise InvalidCombos(None)
    known = []
    for index, combo in enumerate(value):
        if not is_combo(combo, many) or combo[0] in known:
            raise InvalidCombos(index)
        known.append(combo[0])


def is_combo(value, many):
    """Whether any value is a combo of so many keys."""
    if not isinstance(value, tuple) or len(value) != 3:
        return False
    keys, time, code = value
    if not are_combo_keys(keys, many):
        return False
    return is_between(time, 1, GREATEST_COMBO_TIME) and is_code(code)


def are_combo_keys(value, many):
    """Whether any value is an ascending tuple of 2 or 3 of so many keys."""
    return isinstance(value, tuple) and 2 <= len(value) <= 3 and are_ascending(value, many)
