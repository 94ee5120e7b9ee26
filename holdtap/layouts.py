"""Layouts: layers that lie over one another, with an action for each key."""

from holdtap.errors import InvalidLayout, InvalidPlace
from holdtap.integers import is_between

MOST_LAYERS = 6
MOST_KEYS = 16
MOST_SIGNS = 8
CODE_SIGNS = "abcdefghijklmnopqrstuvwxyz0123456789"
GREATEST_TIME = 10 ** 9
LAYER_WORDS = ("layer", "lock", "once")
RULES = ("time", "other", "within")


def is_layout(value):
    """Whether any value is a layout."""
    try:
        check_layout(value)
    except InvalidLayout:
        return False
    return True


def key_count(layout):
    """The number of the keys of the layout."""
    check_layout(layout)
    return len(layout[0])


def duals(layout):
    """The places (layer, key) with a dual action, ascending."""
    check_layout(layout)
    return [
        (layer, key)
        for layer, actions in enumerate(layout)
        for key, action in enumerate(actions)
        if is_dual(action)
    ]


def greatest_time(layout):
    """The greatest time of the duals, 0 if there are none."""
    return max([layout[layer][key][3] for layer, key in duals(layout)], default=0)


def with_action(layout, layer, key, action):
    """A new layout that has the action at this place."""
    check_layout(layout)
    if not is_between(layer, 0, len(layout) - 1):
        raise InvalidPlace("the layout does not have this layer")
    if not is_between(key, 0, len(layout[0]) - 1):
        raise InvalidPlace("the layout does not have this key")
    if not can_stand(action, layer, len(layout)):
        raise InvalidLayout(layer, key)
    changed = [list(actions) for actions in layout]
    changed[layer][key] = action
    return changed


def with_time(layout, layer, key, time):
    """A new layout in which the dual at this place has this time."""
    word, tap, hold, _, rule = layout[layer][key]
    return with_action(layout, layer, key, (word, tap, hold, time, rule))


def check_layout(value):
    """Raise InvalidLayout, with the first wrong place, unless the value is a layout."""
    if not has_layout_form(value):
        raise InvalidLayout(None, None)
    for layer, actions in enumerate(value):
        for key, action in enumerate(actions):
            if not can_stand(action, layer, len(value)):
                raise InvalidLayout(layer, key)


def has_layout_form(value):
    """Whether any value is a list of as many equally long lists as a layout can have."""
    if not isinstance(value, list) or not 1 <= len(value) <= MOST_LAYERS:
        return False
    if not all([isinstance(actions, list) for actions in value]):
        return False
    many = len(value[0])
    return 1 <= many <= MOST_KEYS and all([len(actions) == many for actions in value])


def can_stand(action, layer, layer_count):
    """Whether any value is an action that can stand in this one of so many layers."""
    if isinstance(action, str):
        return action == "none" or (action == "through" and layer > 0)
    if not isinstance(action, tuple):
        return False
    if len(action) == 2:
        return is_code_action(action) or is_layer_action(action, LAYER_WORDS, layer_count)
    return len(action) == 5 and is_dual_action(action, layer_count)


def is_code_action(action):
    """Whether a tuple of two values is the action ("code", c)."""
    word, code = action
    return isinstance(word, str) and word == "code" and is_code(code)


def is_layer_action(action, words, layer_count):
    """Whether a tuple of two values is one of these words with a layer other than 0."""
    word, layer = action
    return isinstance(word, str) and word in words and is_between(layer, 1, layer_count - 1)


def is_dual_action(action, layer_count):
    """Whether a tuple of five values is a dual action."""
    word, tap, hold, time, rule = action
    if not isinstance(word, str) or word != "dual":
        return False
    if not is_code(tap) or not is_hold(hold, layer_count):
        return False
    return is_between(time, 1, GREATEST_TIME) and isinstance(rule, str) and rule in RULES


def is_hold(value, layer_count):
    """Whether any value is an action that a dual can have as its hold."""
    if not isinstance(value, tuple) or len(value) != 2:
        return False
    return is_code_action(value) or is_layer_action(value, ("layer",), layer_count)


def is_code(value):
    """Whether any value is a code."""
    if not isinstance(value, str) or not 1 <= len(value) <= MOST_SIGNS:
        return False
    return all([sign in CODE_SIGNS for sign in value])


def is_dual(action):
    """Whether an action of a layout is a dual."""
    return isinstance(action, tuple) and action[0] == "dual"
