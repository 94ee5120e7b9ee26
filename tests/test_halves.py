import itertools
import random
import unittest

from holdtap.halves import delays_for, late_results, safe_late
from holdtap.playing import flat
from holdtap.records import is_record
from tests import models
from tests.any_values import OTHER_KINDS, EqualToAll
from tests.samples import LAYOUT, NO_LAYOUTS, NO_RECORDS, RECORD, dual, error_of, events, not_integers

GREATEST = 10 ** 9
FAR = 10 ** 15
TAPPED = [("press", "a"), ("press", "x"), ("release", "x"), ("release", "a")]
CALLS = [late_results, lambda *args: delays_for(*args, TAPPED), safe_late]


def arrived(record, keys, delays):
    """The record that arrives with these delays, None if they turn events of the late half around."""
    late = [event[0] + delay for event, delay in zip(record, delays) if event[1] in keys]
    if late != sorted(late):
        return None
    moved = [(tick + delay, key, way) for (tick, key, way), delay in zip(record, delays)]
    return sorted(moved, key=lambda event: event[0])


def all_results(layout, record, keys, late):
    """The flat results of all records that can arrive, each with the greatest delay that it needs."""
    found = {}
    choices = [range(late + 1) if event[1] in keys else [0] for event in record]
    for delays in itertools.product(*choices):
        came = arrived(record, keys, delays)
        if came is not None:
            result = tuple(output for output in models.played(layout, came) if output)
            found[result] = min(found.get(result, late), max(delays, default=0))
    return found


def some_halves(seed, times, most_events):
    chance = random.Random(seed)
    for _ in range(times):
        layout = models.some_layout(chance, most_keys=3, most_layers=2, times=4)
        record = models.some_record(chance, len(layout[0]), chance.randint(0, most_events), (0, 0, 1, 1, 2, 3))
        keys = [key for key in range(len(layout[0])) if chance.random() < 0.6]
        yield layout, record, keys


class TestLateResults(unittest.TestCase):
    def test_the_example(self):
        self.assertEqual(late_results(LAYOUT, RECORD, [1], 2), [TAPPED])
        found = late_results(LAYOUT, RECORD, [1], 3)
        self.assertEqual([len(found), found[0][2], safe_late(LAYOUT, RECORD, [1], 100)], [2, ("release", "a"), 2])

    def test_no_key_late(self):
        for layout, record, keys in some_halves(501, 60, 8):
            for late in (0, 1, GREATEST):
                self.assertEqual(late_results(layout, record, [], late), [flat(layout, record)])
                self.assertEqual(safe_late(layout, record, [], late), late)
                self.assertEqual(delays_for(layout, record, [], late, flat(layout, record)), [0] * len(record))

    def test_late_0(self):
        for layout, record, keys in some_halves(502, 60, 8):
            self.assertEqual(late_results(layout, record, keys, 0), [flat(layout, record)])
            self.assertEqual(safe_late(layout, record, keys, 0), 0)
            self.assertEqual(delays_for(layout, record, keys, 0, flat(layout, record)), [0] * len(record))

    def test_all_keys_late_change_only_distances(self):
        layout = [[dual(5)]]
        record = events("0+0 0-3")
        tap, hold = flat(layout, record), flat(layout, events("0+0 0-5"))
        self.assertEqual(late_results(layout, record, [0], 1), [tap])
        self.assertEqual(late_results(layout, record, [0], 2), [tap, hold])
        self.assertEqual(safe_late(layout, record, [0], GREATEST), 1)
        two = [[("code", "x"), ("code", "y")]]
        for late in (0, 5, GREATEST):
            record = events("0+0 1+1 0-2 1-3")
            self.assertEqual(late_results(two, record, [0, 1], late), [flat(two, record)])

    def test_a_hold_that_becomes_a_tap(self):
        layout = [[dual(5)]]
        record = events("0+0 0-7")
        self.assertEqual(len(late_results(layout, record, [0], 2)), 1)
        self.assertEqual(late_results(layout, record, [0], 3), [
            [("press", "a"), ("release", "a")], [("press", "b"), ("release", "b")],
        ])

    def test_events_of_one_tick_keep_the_sequence_of_the_record(self):
        layout = [[("code", "x"), ("code", "y")]]
        x, y = ("press", "x"), ("press", "y")
        self.assertEqual(late_results(layout, events("0+0 1+1"), [0], 1), [[x, y]])
        self.assertEqual(late_results(layout, events("0+0 1+1"), [0], 2), [[x, y], [y, x]])
        self.assertEqual(late_results(layout, events("0+0 1+0"), [0], 0), [[x, y]])
        self.assertEqual(late_results(layout, events("0+0 1+0"), [0], 1), [[x, y], [y, x]])
        self.assertEqual(late_results(layout, events("0+0 1+0"), [1], GREATEST), [[x, y]])
        self.assertEqual(late_results(layout, events("1+0 0+0"), [1], 1), [[x, y], [y, x]])

    def test_events_of_one_tick_of_which_some_come_late(self):
        layout = [[("code", "x"), ("code", "y"), ("code", "z")]]
        found = late_results(layout, events("0+0 1+0 2+0"), [0, 2], 1)
        self.assertEqual(["".join(code for word, code in result) for result in found], ["xyz", "yxz"])
        found = late_results(layout, events("0+0 1+0 2+0"), [0], 1)
        self.assertEqual(["".join(code for word, code in result) for result in found], ["xyz", "yzx"])

    def test_the_events_of_the_late_half_keep_their_order(self):
        layout = [[("code", "x"), ("code", "y"), ("code", "z")]]
        for result in late_results(layout, events("0+0 2+0 1+1 0-1 2-2"), [0, 1], GREATEST):
            late = [output for output in result if output[1] != "z"]
            self.assertEqual(late, [("press", "x"), ("press", "y"), ("release", "x")])

    def test_great_ticks_and_great_delays(self):
        layout = [[dual(GREATEST), ("code", "x")]]
        record = [(-FAR, 0, "down"), (FAR, 0, "up"), (FAR, 1, "down")]
        self.assertEqual(late_results(layout, record, [0], GREATEST), [
            [("press", "b"), ("press", "x"), ("release", "b")], [("press", "b"), ("release", "b"), ("press", "x")],
        ])
        self.assertEqual(safe_late(layout, record, [0], GREATEST), 0)
        near = [(FAR, 0, "down"), (FAR + GREATEST - 1, 0, "up")]
        self.assertEqual(safe_late(layout, near, [0], GREATEST), 0)
        self.assertEqual(safe_late(layout, [(0, 0, "down"), (3 * GREATEST - 1, 0, "up")], [0], GREATEST), GREATEST)
        self.assertEqual(safe_late(layout, [(0, 0, "down"), (2 * GREATEST - 1, 0, "up")], [0], GREATEST), GREATEST - 1)

    def test_results_ascend_and_each_is_told_once(self):
        for layout, record, keys in some_halves(503, 150, 8):
            found = late_results(layout, record, keys, 5)
            self.assertEqual(found, sorted(found))
            self.assertEqual(len(found), len({tuple(result) for result in found}))
            self.assertTrue(all(type(result) is list for result in found))

    def test_eight_events_that_can_all_be_mixed(self):
        layout = [[dual(3), ("code", "x")]]
        record = events("0+0 0-0 0+0 0-0 1+1 1-2 1+3 1-4")
        found = late_results(layout, record, [0], GREATEST)
        shuffled = set(itertools.combinations(range(8), 4))
        orders = {
            tuple(number for number, output in enumerate(result) if output[1] in "ab") for result in found
        }
        self.assertEqual(orders, shuffled)


class TestAgainstAllDelays(unittest.TestCase):
    def test_results_delays_and_safe_ticks(self):
        different = 0
        for layout, record, keys in some_halves(510, 250, 5):
            late = 4 if len(record) < 5 else 3
            with self.subTest(layout=layout, record=record, keys=keys):
                expected = all_results(layout, record, keys, late)
                self.assertEqual(late_results(layout, record, keys, late), sorted(map(list, expected)))
                for result in expected:
                    self.check_delays(layout, record, keys, expected[result], list(result))
                    if expected[result]:
                        less = delays_for(layout, record, keys, expected[result] - 1, list(result))
                        self.assertIsNone(less)
                needed = [expected[result] for result in expected if expected[result]]
                for most in range(late + 1):
                    safe = min([most] + [ticks - 1 for ticks in needed])
                    self.assertEqual(safe_late(layout, record, keys, most), safe)
                different += len(expected) > 1
        self.assertGreater(different, 60)

    def check_delays(self, layout, record, keys, late, result):
        delays = delays_for(layout, record, keys, late, result)
        self.assertIs(type(delays), list)
        self.assertEqual(len(delays), len(record))
        for event, delay in zip(record, delays):
            self.assertIs(type(delay), int)
            self.assertTrue(0 <= delay <= (late if event[1] in keys else 0))
        came = arrived(record, keys, delays)
        self.assertTrue(is_record(came))
        self.assertEqual(flat(layout, came), result)

    def test_each_result_has_delays(self):
        for layout, record, keys in some_halves(511, 200, 8):
            for late in (1, 3, 1000, GREATEST):
                for result in late_results(layout, record, keys, late):
                    self.check_delays(layout, record, keys, late, result)

    def test_random_delays_give_one_of_the_results(self):
        chance = random.Random(512)
        for layout, record, keys in some_halves(513, 200, 8):
            for late in (2, 6, 20):
                found = late_results(layout, record, keys, late)
                for _ in range(20):
                    delays = [chance.randint(0, late) * (event[1] in keys) for event in record]
                    came = arrived(record, keys, delays)
                    if came is not None:
                        self.assertIn(flat(layout, came), found)

    def test_one_tick_more_is_not_safe(self):
        limited = 0
        for layout, record, keys in some_halves(514, 200, 8):
            safe = safe_late(layout, record, keys, GREATEST)
            self.assertEqual(len(late_results(layout, record, keys, safe)), 1)
            for most in (0, 1, safe):
                self.assertEqual(safe_late(layout, record, keys, most), min(most, safe))
            if safe < GREATEST:
                limited += 1
                self.assertGreater(len(late_results(layout, record, keys, safe + 1)), 1)
        self.assertGreater(limited, 50)


class TestDelaysFor(unittest.TestCase):
    def test_values_that_are_no_result(self):
        itself = []
        itself.append(itself)
        for value in OTHER_KINDS + [
            itself, [], [()], tuple(TAPPED), [list(output) for output in TAPPED], TAPPED[:3], TAPPED + TAPPED[:1],
            [("press", "b")] + TAPPED[1:], [EqualToAll()] * 4, [("press", EqualToAll())] + TAPPED[1:],
            TAPPED[:1] + [()] + TAPPED[1:], [None] * 500, [(EqualToAll(), "a")] + TAPPED[1:],
        ]:
            with self.subTest(value=value):
                self.assertIsNone(delays_for(LAYOUT, RECORD, [1], 3, value))

    def test_the_empty_result(self):
        self.assertEqual(delays_for(LAYOUT, [], [1], 3, []), [])
        self.assertEqual(late_results(LAYOUT, [], [1], 3), [[]])
        self.assertEqual(safe_late(LAYOUT, [], [0, 1, 2], 3), 3)
        self.assertEqual(delays_for([["none"]], events("0+0 0-0"), [0], 3, []), [0, 0])
        self.assertIsNone(delays_for(LAYOUT, [], [1], 3, TAPPED))

    def test_each_value_of_the_example(self):
        for late in (2, 3):
            for value in late_results(LAYOUT, RECORD, [1], 3):
                delays = delays_for(LAYOUT, RECORD, [1], late, value)
                self.assertEqual(delays is not None, value == TAPPED or late == 3)
                if delays is not None:
                    self.assertEqual(flat(LAYOUT, arrived(RECORD, [1], delays)), value)


class TestErrors(unittest.TestCase):
    NINE = events("0+0 0-1 0+2 0-3 0+4 0-5 0+6 0-7 0+8")

    def assert_all(self, error, *args):
        for call in CALLS:
            with self.subTest(args=args):
                found = error_of(call, *args)
                self.assertEqual(found if len(error) > 1 else found[:1], error)

    def test_layouts_then_records(self):
        for layout, fields in NO_LAYOUTS:
            for rest in ((RECORD, [1], 2), (None, None, None)):
                self.assert_all(("InvalidLayout",) + fields, layout, *rest)
        for record, index in NO_RECORDS:
            for rest in (([1], 2), (None, None)):
                self.assert_all(("InvalidRecord", index), LAYOUT, record, *rest)

    def test_keys(self):
        for keys in OTHER_KINDS + [
            (0,), [3], [-1], [0, 3], [1, 0], [0, 0], [0, 1, 1], [0, 1, 2, 2], [True], [0, True], [0.0], ["0"], [None],
            [[0]], {0: 1}, [EqualToAll()], [0] * 500, [10 ** 30],
        ]:
            for record in (RECORD, self.NINE):
                for late in (2, -1, None):
                    self.assert_all(("InvalidKey",), LAYOUT, record, keys, late)
        for keys in ([], [0], [2], [0, 1], [0, 2], [0, 1, 2]):
            self.assertEqual([error_of(call, LAYOUT, RECORD, keys, 1) for call in CALLS], [None] * 3)

    def test_late(self):
        for late in not_integers() + [-1, GREATEST + 1, 10 ** 30, -10 ** 30]:
            for record in (RECORD, [], self.NINE):
                self.assert_all(("InvalidLate",), LAYOUT, record, [1], late)
        for late in (0, 1, GREATEST):
            self.assertEqual([error_of(call, LAYOUT, RECORD, [1], late) for call in CALLS], [None] * 3)

    def test_eight_and_nine_events(self):
        for keys in ([], [0], [1], [0, 1, 2]):
            for late in (0, GREATEST):
                self.assertEqual([error_of(call, LAYOUT, self.NINE[:8], keys, late) for call in CALLS], [None] * 3)
                self.assert_all(("TooLarge", 8), LAYOUT, self.NINE, keys, late)
        longest = [(at, 0, "up" if at % 2 else "down") for at in range(400)]
        self.assert_all(("TooLarge", 8), LAYOUT, longest, [0], 1)

    def test_outputs_come_with_no_error(self):
        for value in OTHER_KINDS:
            self.assertEqual(error_of(delays_for, LAYOUT, self.NINE, [0], 1, value), ("TooLarge", 8))
            self.assertIsNone(delays_for(LAYOUT, RECORD, [0], 1, value))


if __name__ == "__main__":
    unittest.main()
