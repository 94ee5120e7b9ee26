"""Texts of layouts, records and results."""

from holdtap.errors import InvalidText
from holdtap.layouts import LAYER_WORDS, MOST_LAYERS, MOST_KEYS, RULES
from holdtap.layouts import can_stand, check_layout, is_code, is_dual
from holdtap.outputs import are_outputs
from holdtap.records import MOST_EVENTS, can_follow, check_record

DIGITS = "0123456789"
MOST_DIGITS = 30
# A sign for each word, in the same places.
LAYER_SIGNS = "@!^"
RULE_SIGNS = "tow"


def format_layout(layout):
    """The text of the layout, with a line for each layer."""
    check_layout(layout)
    return "\n".join([" ".join([action_text(action) for action in actions]) for actions in layout])


def parse_layout(text):
    """The layout that has this text."""
    if not isinstance(text, str):
        raise InvalidText(None, None)
    lines = text.split("\n")
    layout = []
    for line, row in enumerate(lines):
        words = row.split(" ")
        most = len(layout[0]) if layout else MOST_KEYS
        for at, word in enumerate(words):
            if line == MOST_LAYERS or at == most or not can_stand(action_of(word), line, len(lines)):
                raise InvalidText(line, at)
        if layout and len(words) < most:
            raise InvalidText(line, len(words))
        layout.append([action_of(word) for word in words])
    return layout


def format_record(record):
    """The text of the record."""
    check_record(record)
    return " ".join([event_text(event) for event in record])


def parse_record(text):
    """The record that has this text."""
    if not isinstance(text, str):
        raise InvalidText(None, None)
    record, held = [], {}
    for at, word in enumerate(text.split(" ") if text else []):
        event = event_of(word)
        last = record[-1] if record else None
        if at == MOST_EVENTS or event is None or not can_follow(event, last, held):
            raise InvalidText(0, at)
        record.append(event)
    return record


def format_result(result):
    """The text of a result."""
    if not are_outputs(result) or len(result) > MOST_EVENTS:
        raise InvalidText(None, None)
    return " ".join([output_text(output) for output in result])


def action_text(action):
    """The word for an action."""
    if action == "none":
        return "."
    if action == "through":
        return "-"
    if is_dual(action):
        _, tap, hold, time, rule = action
        return f"{tap}/{action_text(hold)}:{time}{RULE_SIGNS[RULES.index(rule)]}"
    word, about = action
    return about if word == "code" else LAYER_SIGNS[LAYER_WORDS.index(word)] + str(about)


def action_of(word):
    """The action that the word stands for, None if it is none; its layers may not exist."""
    if word == ".":
        return "none"
    if word == "-":
        return "through"
    return dual_of(word) if "/" in word else plain_action_of(word)


def plain_action_of(word):
    """The action with a code or a layer that the word stands for, None if it is none."""
    if is_code(word):
        return ("code", word)
    sign, number = word[:1], word[1:]
    if not is_number(number) or sign not in LAYER_SIGNS:
        return None
    return (LAYER_WORDS[LAYER_SIGNS.index(sign)], int(number))


def dual_of(word):
    """The dual that the word stands for, None if it has not the form of one."""
    tap, _, rest = word.partition("/")
    hold, _, end = rest.partition(":")
    number, sign = end[:-1], end[-1:]
    if not is_number(number) or sign not in RULE_SIGNS:
        return None
    return ("dual", tap, plain_action_of(hold), int(number), RULES[RULE_SIGNS.index(sign)])


def event_text(event):
    """The word for an event."""
    tick, key, way = event
    return f"{key}{way_sign(way)}{tick}"


def way_sign(way):
    """The sign for a way."""
    return "+" if way == "down" else "-"


def event_of(word):
    """The event that the word stands for, None if it is none."""
    way = "down" if "+" in word else "up"
    key, _, tick = word.partition(way_sign(way))
    if not is_number(key) or not is_signed_number(tick):
        return None
    return (int(tick), int(key), way)


def output_text(output):
    """The word for an output of a result."""
    if output == ():
        return "."
    word, code = output
    return output_sign(word) + code


def output_sign(word):
    """The sign for a press or a release."""
    return "+" if word == "press" else "-"


def is_number(text):
    """Whether the text is a number from 0 on, as it is written here."""
    if not 1 <= len(text) <= MOST_DIGITS or not all([sign in DIGITS for sign in text]):
        return False
    return text == "0" or text[0] != "0"


def is_signed_number(text):
    """Whether the text is a number, as it is written here, perhaps below 0."""
    if text[:1] == "-":
        return text != "-0" and is_number(text[1:])
    return is_number(text)
