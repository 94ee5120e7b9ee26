import unittest

from holdtap.errors import InvalidOrder, InvalidRecord, InvalidTick
from holdtap.records import (
    ended, is_order, is_record, is_whole, lengths, order_of, with_ticks,
)
from tests.any_values import OTHER_KINDS, EqualToAll

RECORD = [(0, 0, "down"), (1, 1, "down"), (2, 1, "up"), (4, 0, "up")]
GREAT = 10 ** 30

STEPS = [
    (0, "down"), (1, "down"), (GREAT, "down"), (10 ** 5000, "down"),
]
NO_STEPS = [
    (), (5,), ("down",), (5, "down", 0), (-1, "down"), (True, "down"), (False, "down"),
    (5.0, "down"), ("5", "down"), (None, "down"), ([5], "down"), ((5,), "down"),
    (5, "Down"), (5, ""), (5, "press"), (5, "downup"), (5, "do"), (5, None), (5, True), (5, 1),
    (5, ("down",)), (5, ["down"]), (5, b"down"), ("down", 5), [5, "down"], "5down", {5: "down"},
    (EqualToAll(), "down"), (5, EqualToAll()),
] + OTHER_KINDS
NO_EVENTS = [(0,) + step for step in NO_STEPS if isinstance(step, tuple)] + [
    (5, "down"), (0, 5, "down", 0), [0, 5, "down"], (True, 5, "down"), (False, 5, "down"),
    (0.0, 5, "down"), ("0", 5, "down"), (None, 5, "down"), ([0], 5, "down"), ((0,), 5, "down"),
    (EqualToAll(), 5, "down"), ("down", 5, 0),
] + OTHER_KINDS


def presses(many):
    """A whole record of many events at which one key goes down and up by turns."""
    return [(at, 0, "up" if at % 2 else "down") for at in range(many)]


class RecordCase(unittest.TestCase):
    def assert_invalid(self, error, index, call, *args):
        with self.assertRaises(error) as caught:
            call(*args)
        self.assertEqual(caught.exception.index, index)
        self.assertNotIsInstance(caught.exception.index, bool)

    def assert_no_record(self, index, value):
        self.assertIs(is_record(value), False)
        for call in (is_whole, order_of, lengths, ended):
            self.assert_invalid(InvalidRecord, index, call, value)

    def assert_no_order(self, index, value):
        self.assertIs(is_order(value), False)
        self.assert_invalid(InvalidOrder, index, with_ticks, value, [])
        self.assert_invalid(InvalidOrder, index, with_ticks, value, None)


class TestIsRecord(RecordCase):
    def test_the_example(self):
        values = [
            is_record(RECORD), is_record(RECORD[1:]), is_whole(RECORD), is_whole(RECORD[:3]),
            order_of(RECORD[:2]), lengths(RECORD), lengths(RECORD[:3]),
        ]
        steps = [(0, "down"), (1, "down")]
        expected = [True, False, True, False, steps, [4, 1, None, None], [None, 1, None]]
        self.assertEqual(values, expected)

    def test_the_example_with_an_error(self):
        wrong = [(0, 0, "down"), (1, 0, "down")]
        self.assert_invalid(InvalidRecord, 1, order_of, wrong)

    def test_records(self):
        many_keys = [(0, key, "down") for key in range(200)]
        for value in (
            [], [(0, 0, "down")], [(-5, 3, "down")], [(-5, 3, "down"), (-5, 3, "up")],
            [(-9, 0, "down"), (-8, 0, "up"), (-8, 0, "down")], many_keys,
            many_keys + [(0, key, "up") for key in range(200)],
            [(-10 ** 15, 0, "down"), (10 ** 15, 0, "up")],
            [(-GREAT, GREAT, "down"), (GREAT, GREAT, "up")],
            [(10 ** 5000, 10 ** 5000, "down")],
            [(0, key, "down") for key in (7, 3, 0, GREAT, 5)],
        ):
            with self.subTest(many=len(value)):
                self.assertIs(is_record(value), True)

    def test_lengths_from_both_sides(self):
        for many in (0, 1, 2, 399, 400):
            with self.subTest(many=many):
                self.assertIs(is_record(presses(many)), True)
                self.assertEqual(len(order_of(presses(many))), many)
        for many in (401, 402, 500):
            with self.subTest(many=many):
                self.assert_no_record(None, presses(many))

    def test_a_list_that_is_too_long_comes_ahead_of_its_items(self):
        self.assert_no_record(None, [None] * 401)
        self.assert_no_record(0, [None] * 400)
        self.assert_no_record(399, presses(399) + [(0, 0, "up")])

    def test_values_that_are_no_lists(self):
        for value in OTHER_KINDS + [tuple(RECORD), (), (RECORD[0],), set(RECORD), iter(RECORD)]:
            with self.subTest(value=value):
                self.assert_no_record(None, value)

    def test_items_that_are_no_events(self):
        for item in NO_EVENTS:
            with self.subTest(item=item):
                self.assert_no_record(0, [item])
                self.assert_no_record(1, [(-3, 8, "down"), item])
                self.assert_no_record(1, [(-3, 5, "down"), item])
                self.assert_no_record(4, RECORD + [item, item])

    def test_a_list_that_holds_itself(self):
        value = []
        value.append(value)
        self.assert_no_record(0, value)

    def test_ticks_do_not_fall(self):
        self.assert_no_record(1, [(0, 0, "down"), (-1, 0, "up")])
        self.assert_no_record(3, RECORD[:3] + [(1, 0, "up"), (0, 0, "down")])
        self.assert_no_record(2, [(5, 0, "down"), (9, 1, "down"), (8, 2, "down"), (9, 2, "up")])
        self.assert_no_record(1, [(GREAT, 0, "down"), (GREAT - 1, 1, "down")])
        self.assertIs(is_record([(5, 0, "down"), (5, 0, "up"), (5, 0, "down")]), True)

    def test_keys_go_down_and_up_by_turns(self):
        self.assert_no_record(0, [(0, 0, "up")])
        self.assert_no_record(1, [(0, 0, "down"), (1, 1, "up")])
        self.assert_no_record(2, [(0, 0, "down"), (1, 1, "down"), (2, 0, "down")])
        self.assert_no_record(2, [(0, 0, "down"), (0, 0, "up"), (0, 0, "up")])
        self.assert_no_record(4, RECORD + [(4, 1, "up")])
        self.assert_no_record(2, [(0, GREAT, "down"), (0, GREAT + 1, "down"), (0, GREAT, "down")])

    def test_the_first_wrong_item_for_any_reason(self):
        self.assert_no_record(1, [(5, 0, "down"), (4, 0, "up"), None])
        self.assert_no_record(1, [(5, 0, "down"), None, (4, 0, "up")])
        self.assert_no_record(1, [(5, 0, "down"), (6, 0, "down"), (4, 0, "up")])
        self.assert_no_record(0, [(5, 0, "up"), (4, 0, "up"), None])

    def test_a_wrong_item_may_be_wrong_in_two_ways(self):
        self.assert_no_record(1, [(5, 0, "down"), (4, 0, "down")])


class TestIsOrder(RecordCase):
    def test_orders(self):
        for value in ([], [(0, "down")], [(3, "down"), (3, "up"), (3, "down")]):
            with self.subTest(value=value):
                self.assertIs(is_order(value), True)
        for step in STEPS:
            self.assertIs(is_order([step]), True)
            self.assertIs(is_order([step, (step[0], "up")]), True)

    def test_the_order_of_a_record_is_an_order(self):
        for many in range(5):
            self.assertIs(is_order(order_of(RECORD[:many])), True)

    def test_a_record_is_no_order_and_the_reverse(self):
        self.assert_no_order(0, RECORD)
        self.assert_no_record(0, order_of(RECORD))

    def test_lengths_from_both_sides(self):
        for many in (0, 1, 2, 399, 400):
            with self.subTest(many=many):
                steps = [(0, "up" if at % 2 else "down") for at in range(many)]
                self.assertIs(is_order(steps), True)
                self.assertEqual(with_ticks(steps, list(range(many))), presses(many))
        for many in (401, 500):
            with self.subTest(many=many):
                steps = [(0, "up" if at % 2 else "down") for at in range(many)]
                self.assert_no_order(None, steps)
        self.assert_no_order(None, [None] * 401)
        self.assert_no_order(0, [None] * 400)

    def test_values_that_are_no_lists(self):
        steps = order_of(RECORD)
        for value in OTHER_KINDS + [tuple(steps), (), set(steps), iter(steps)]:
            with self.subTest(value=value):
                self.assert_no_order(None, value)

    def test_items_that_are_no_tuples_of_key_and_way(self):
        for item in NO_STEPS:
            with self.subTest(item=item):
                self.assert_no_order(0, [item])
                self.assert_no_order(1, [(8, "down"), item])
                self.assert_no_order(1, [(5, "down"), item])
                self.assert_no_order(4, order_of(RECORD) + [item, item])

    def test_keys_go_down_and_up_by_turns(self):
        self.assert_no_order(0, [(0, "up")])
        self.assert_no_order(1, [(0, "down"), (1, "up")])
        self.assert_no_order(2, [(0, "down"), (1, "down"), (0, "down")])
        self.assert_no_order(2, [(0, "down"), (0, "up"), (0, "up"), None])
        self.assert_no_order(2, [(GREAT, "down"), (GREAT + 1, "down"), (GREAT, "down")])


class TestWhole(RecordCase):
    def test_whole_records(self):
        for record in ([], RECORD, presses(400), [(-1, GREAT, "down"), (-1, GREAT, "up")]):
            self.assertIs(is_whole(record), True)

    def test_records_with_a_key_down(self):
        for record in (
            RECORD[:1], RECORD[:2], RECORD[:3], presses(399), [(-1, GREAT, "down")],
            RECORD + [(9, 5, "down")], RECORD + [(4, 0, "down")],
            [(0, 0, "down"), (0, 1, "down"), (0, 0, "up")],
        ):
            self.assertIs(is_whole(record), False)


class TestOrderOf(RecordCase):
    def test_orders_of_records(self):
        self.assertEqual(order_of([]), [])
        self.assertEqual(order_of(RECORD), [(0, "down"), (1, "down"), (1, "up"), (0, "up")])
        self.assertEqual(order_of([(-7, GREAT, "down")]), [(GREAT, "down")])
        for step in order_of(RECORD):
            self.assertIs(step.__class__, tuple)


class TestLengths(RecordCase):
    def test_no_events(self):
        self.assertEqual(lengths([]), [])

    def test_presses_without_an_up(self):
        self.assertEqual(lengths([(5, 0, "down")]), [None])
        self.assertEqual(lengths([(5, 0, "down"), (5, 1, "down"), (9, 1, "up")]), [None, 4, None])

    def test_several_presses_of_a_key(self):
        record = [
            (-9, 0, "down"), (-2, 0, "up"), (-2, 0, "down"), (-2, 0, "up"), (3, 0, "down"),
        ]
        self.assertEqual(lengths(record), [7, None, 0, None, None])

    def test_presses_that_cross(self):
        record = [
            (0, GREAT, "down"), (1, 0, "down"), (4, GREAT, "up"), (4, GREAT, "down"),
            (10 ** 15, 0, "up"), (10 ** 15, GREAT, "up"),
        ]
        expected = [4, 10 ** 15 - 1, None, 10 ** 15 - 4, None, None]
        self.assertEqual(lengths(record), expected)

    def test_many_keys(self):
        record = [(key, key, "down") for key in range(100)]
        record += [(200 + key, key, "up") for key in range(100)]
        self.assertEqual(lengths(record), [200] * 100 + [None] * 100)


class TestEnded(RecordCase):
    def test_the_example(self):
        values = [ended(RECORD[:2])[2:], with_ticks([(0, "down"), (0, "up")], [3, 3])]
        ups = [(1000000001, 0, "up"), (1000000001, 1, "up")]
        self.assertEqual(values, [ups, [(3, 0, "down"), (3, 0, "up")]])

    def test_whole_records_stay(self):
        for record in ([], RECORD, presses(400)):
            self.assertEqual(ended(record), record)

    def test_the_events_stay_in_front(self):
        for many in range(5):
            self.assertEqual(ended(RECORD[:many])[:many], RECORD[:many])
            self.assertIs(is_whole(ended(RECORD[:many])), True)

    def test_ups_by_ascending_keys_behind_the_last_event(self):
        record = [(-20, key, "down") for key in (GREAT, 3, 12, 0, 7)] + [(-10, 12, "up")]
        tick = 10 ** 9 - 10
        ups = [(tick, key, "up") for key in (0, 3, 7, GREAT)]
        self.assertEqual(ended(record), record + ups)

    def test_only_keys_that_are_down(self):
        record = RECORD[:3]
        self.assertEqual(ended(record), record + [(2 + 10 ** 9, 0, "up")])
        again = RECORD + [(4, 1, "down")]
        self.assertEqual(ended(again), again + [(4 + 10 ** 9, 1, "up")])

    def test_many_keys_down(self):
        record = [(at, 199 - at, "down") for at in range(200)]
        ups = [(199 + 10 ** 9, key, "up") for key in range(200)]
        self.assertEqual(ended(record), record + ups)
        self.assertIs(is_record(ended(record)), True)
        self.assertIs(is_whole(ended(record)), True)


class TestWithTicks(RecordCase):
    def test_a_record_is_its_order_with_its_ticks(self):
        for record in ([], RECORD, RECORD[:3], presses(400), [(-3, GREAT, "down")]):
            ticks = [tick for tick, key, way in record]
            self.assertEqual(with_ticks(order_of(record), ticks), record)

    def test_any_integers_are_ticks(self):
        ticks = [-GREAT, -10 ** 15 - 1, 10 ** 15 + 1, GREAT]
        expected = [(tick,) + step for tick, step in zip(ticks, order_of(RECORD))]
        self.assertEqual(with_ticks(order_of(RECORD), ticks), expected)

    def test_equal_ticks(self):
        self.assertIs(is_record(with_ticks(order_of(RECORD), [-5] * 4)), True)

    def test_wrong_ticks(self):
        order = order_of(RECORD)
        for ticks in OTHER_KINDS + [
            (0, 1, 2, 3), [], [0, 1, 2], [0, 1, 2, 3, 4], [0, 1, 2, 1], [1, 0, 2, 3],
            [0, 2, 1, 3], [-1, -2, -2, -1], [0, 1, 2, True], [False, 1, 2, 3], [0, 1, 2, 3.0],
            [0, 1, 2, "3"], [0, 1, 2, None], [0, 1, 2, [3]], [0, 1, 2, EqualToAll()],
            {0: 0, 1: 1, 2: 2, 3: 3}, {0, 1, 2, 3}, range(4), "0123", iter([0, 1, 2, 3]),
            [None] * 500,
        ]:
            with self.subTest(ticks=ticks):
                with self.assertRaises(InvalidTick):
                    with_ticks(order, ticks)

    def test_ticks_of_the_empty_order(self):
        self.assertEqual(with_ticks([], []), [])
        for ticks in ((), None, [0], {}, ""):
            with self.assertRaises(InvalidTick):
                with_ticks([], ticks)

    def test_the_order_comes_ahead_of_the_ticks(self):
        self.assert_invalid(InvalidOrder, None, with_ticks, tuple(order_of(RECORD)), [3, 2, 1, 0])
        self.assert_invalid(InvalidOrder, 1, with_ticks, [(0, "down"), (0, "down")], [1, 0])
        self.assert_invalid(InvalidOrder, 0, with_ticks, RECORD, [0, 1, 2])


if __name__ == "__main__":
    unittest.main()
