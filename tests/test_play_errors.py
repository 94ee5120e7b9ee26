"""Wrong arguments of the functions that take a layout and a record."""

import unittest

from holdtap.board import outputs, waiting_at, walk_outputs
from holdtap.errors import InvalidLayout, InvalidRecord, InvalidTick
from holdtap.lateness import done_ticks, held_by
from holdtap.playing import codes_down, flat, layers_on, meanings, played, sure_by
from holdtap.records import is_record, lengths
from tests.any_values import OTHER_KINDS

LAYOUT = [
    [("dual", "a", ("layer", 1), 5, "time"), ("code", "x"), ("once", 1)],
    ["through", ("code", "1"), "through"],
]
RECORD = [(0, 0, "down"), (1, 1, "down"), (2, 1, "up"), (4, 0, "up")]


def walked(layout, record):
    return list(walk_outputs(layout, record))


def waiting_at_0(layout, record):
    return waiting_at(layout, record, 0)


def waiting_at_no_tick(layout, record):
    return waiting_at(layout, record, None)


CALLS = [
    played, flat, meanings, sure_by, layers_on, codes_down, outputs, walked, waiting_at_0,
    waiting_at_no_tick, done_ticks, held_by,
]


class TestWrongArguments(unittest.TestCase):
    def assert_no_layout(self, layer, key, layout, record):
        for call in CALLS:
            with self.subTest(call=call.__name__, layout=layout):
                with self.assertRaises(InvalidLayout) as caught:
                    call(layout, record)
                self.assertEqual((caught.exception.layer, caught.exception.key), (layer, key))

    def assert_no_record(self, index, record, layout=LAYOUT):
        for call in CALLS:
            with self.subTest(call=call.__name__, record=record):
                with self.assertRaises(InvalidRecord) as caught:
                    call(layout, record)
                self.assertEqual(caught.exception.index, index)

    def test_values_that_are_no_layouts(self):
        for value in OTHER_KINDS + [[], [[]], tuple(LAYOUT), [LAYOUT[0], ["through"]], [["none"]] * 7]:
            self.assert_no_layout(None, None, value, RECORD)

    def test_the_first_wrong_action(self):
        self.assert_no_layout(0, 1, [["none", "through"], ["bad", "none"]], [])
        self.assert_no_layout(1, 0, [["none", "none"], ["bad", ()]], [])
        self.assert_no_layout(0, 2, [LAYOUT[0][:2] + [("once", 2)], LAYOUT[1]], RECORD)
        self.assert_no_layout(0, 0, [[("dual", "a", ("code", "b"), 0, "time")]], [])

    def test_a_wrong_layout_comes_ahead_of_a_wrong_record(self):
        for record in ([(0, 0, "up")], [(0, 7, "down")], None, [None] * 401):
            self.assert_no_layout(0, 0, [["through"]], record)
            self.assert_no_layout(None, None, [], record)

    def test_values_that_are_no_records(self):
        for value in OTHER_KINDS + [tuple(RECORD), [None] * 401, [(0, 9, "down")] * 401]:
            self.assert_no_record(None, value)

    def test_the_first_wrong_event(self):
        self.assert_no_record(0, [None] * 400)
        self.assert_no_record(0, [(0, 0, "up")])
        self.assert_no_record(4, RECORD + [(3, 0, "down")])
        self.assert_no_record(4, RECORD + [(4, 0, "up")])
        self.assert_no_record(2, RECORD[:2] + [[2, 1, "up"], (4, 0, "up")])
        self.assert_no_record(3, RECORD[:3] + [(True, 0, "up")])

    def test_a_key_that_the_layout_does_not_have(self):
        self.assert_no_record(0, [(0, 3, "down")])
        self.assert_no_record(0, [(0, 10 ** 30, "down"), (0, 3, "down")])
        self.assert_no_record(4, RECORD + [(5, 3, "down"), (6, 3, "up")])
        self.assert_no_record(0, [(0, 1, "down")], layout=[["none"]])
        self.assert_no_record(0, [(0, 16, "down")], layout=[["none"] * 16])
        for call in CALLS:
            if call != waiting_at_no_tick:
                call([["none"] * 16], [(0, 15, "down")])

    def test_the_first_item_that_is_wrong_for_any_reason(self):
        self.assert_no_record(1, [(0, 0, "down"), (0, 3, "down"), None])
        self.assert_no_record(1, [(0, 0, "down"), None, (0, 3, "down")])
        self.assert_no_record(1, [(0, 0, "down"), (0, 0, "down"), (0, 3, "down")])
        self.assert_no_record(1, [(0, 0, "down"), (-1, 3, "up")])

    def test_without_a_layout_any_key_is_right(self):
        record = [(0, 3, "down"), (1, 16, "down"), (2, 3, "up")]
        self.assertIs(is_record(record), True)
        self.assertEqual(lengths(record), [2, None, None])

    def test_ticks_of_waiting_at(self):
        for value in OTHER_KINDS + [[0], (0,), "0"]:
            if isinstance(value, int) and not isinstance(value, bool):
                continue
            with self.subTest(value=value), self.assertRaises(InvalidTick):
                waiting_at(LAYOUT, RECORD, value)
            with self.assertRaises(InvalidTick):
                waiting_at(LAYOUT, [], value)

    def test_a_wrong_tick_comes_last(self):
        with self.assertRaises(InvalidRecord):
            waiting_at(LAYOUT, [(0, 3, "down")], "0")
        with self.assertRaises(InvalidLayout):
            waiting_at([[]], RECORD, "0")

    def test_a_walk_fails_when_it_is_called_or_at_its_first_item(self):
        with self.assertRaises(InvalidLayout):
            next(walk_outputs(None, RECORD))
        with self.assertRaises(InvalidRecord):
            next(walk_outputs(LAYOUT, None))


if __name__ == "__main__":
    unittest.main()
