"""Shortest records that press given codes with a small layout."""

from holdtap.errors import InvalidCodes, InvalidRecord
from holdtap.layouts import check_layout, is_code
from holdtap.playing import flat
from holdtap.records import check_record, held_keys
from holdtap.search import shortest_record
from holdtap.small import SmallPlayer, check_small, output_of

MOST_CODES = 5
NO_KEY = None


class Pressing:
    """The goal that just these codes are pressed, in order.

    A state has how many of them are pressed, the state of the player, and the key that is bound
    to a code if the codes have to stand alone, NO_KEY without one.
    """

    def __init__(self, layout, codes, alone):
        self.player = SmallPlayer(layout)
        self.wished = codes
        self.alone = alone

    def start(self):
        """The state at the beginning."""
        return (0, self.player.start(), NO_KEY)

    def is_reached(self, state):
        """Whether all codes are pressed."""
        return state[0] == len(self.wished)

    def ways_down(self, state, key):
        """The states behind a down of the key that keeps to the codes, with the pledges it needs."""
        many, playing, held = state
        found = []
        for what, pledge in self.player.ways_down(playing, key):
            following = self.player.after_press(playing, key, what)
            if output_of(what) == ():
                found.append(((many, following, held), pledge))
            elif held == NO_KEY and self.wished[many:many + 1] == [what[1]]:
                found.append(((many + 1, following, key if self.alone else NO_KEY), pledge))
        return found

    def after_up(self, state, key):
        """The state behind an up of the key."""
        many, playing, held = state
        return (many, self.player.after_release(playing, key), NO_KEY if held == key else held)


def typed(layout, codes, *, alone=False):
    """A shortest whole record that presses just these codes, in order; None if there is none."""
    check_codes(layout, codes)
    return shortest_record(Pressing(layout, codes, alone), len(layout[0]))


def is_typed(layout, codes, value, *, alone=False):
    """Whether any value is a whole record that presses just these codes, in order."""
    check_codes(layout, codes)
    if not is_whole_record(value, len(layout[0])):
        return False
    outputs = flat(layout, value)
    if [code for word, code in outputs if word == "press"] != codes:
        return False
    return not alone or stand_alone(outputs)


def stand_alone(outputs):
    """Whether no code is down when another one is pressed."""
    words = [word for word, code in outputs]
    return all([words[at] != "press" or words[at - 1] == "release" for at in range(1, len(words))])


def is_whole_record(value, many):
    """Whether any value is a record of so many keys behind which all keys are up."""
    try:
        check_record(value, many)
    except InvalidRecord:
        return False
    return held_keys(value) == []


def check_codes(layout, codes):
    """Raise InvalidLayout, TooLarge or InvalidCodes for the first wrong argument."""
    check_layout(layout)
    check_small(layout)
    if not isinstance(codes, list) or len(codes) > MOST_CODES:
        raise InvalidCodes("not a list of 0 to 5 items")
    if not all([is_code(code) for code in codes]):
        raise InvalidCodes("not a list of codes")
