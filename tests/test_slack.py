import itertools
import random
import unittest

from holdtap.playing import meanings
from holdtap.records import is_record, order_of, with_ticks
from holdtap.slack import is_shaken, shaken, slack
from tests import models
from tests.any_values import OTHER_KINDS
from tests.samples import LAYOUT, NO_LAYOUTS, NO_RECORDS, RECORD, dual, error_of, events, not_integers

FAR = 10 ** 15
MOVED = [(-1, 0, "down"), (1, 1, "down"), (2, 1, "up"), (5, 0, "up")]


def kinds(layout, record):
    return [meaning[1] for meaning in models.meanings(layout, record) if meaning]


def movings(record, most):
    """All records of the same order whose ticks are at most so many earlier or later."""
    moves = range(-most, most + 1)
    for steps in itertools.product(moves, repeat=len(record)):
        ticks = [event[0] + step for event, step in zip(record, steps)]
        if ticks == sorted(ticks):
            yield with_ticks(order_of(record), ticks)


class TestSlack(unittest.TestCase):
    def test_the_example(self):
        self.assertEqual(slack(LAYOUT, RECORD), 0)
        self.assertEqual(slack(LAYOUT, RECORD[:3] + [(9, 0, "up")]), 2)
        self.assertIsNone(slack(LAYOUT, RECORD[1:3]))

    def test_lengths_around_the_time(self):
        expected = {0: 4, 1: 4, 2: 3, 8: 0, 9: 0, 10: 0, 11: 0, 12: 1, 13: 1, 14: 2, 110: 50}
        for length, ticks in expected.items():
            with self.subTest(length=length):
                record = [(7, 0, "down"), (7 + length, 0, "up")]
                self.assertEqual(slack([[dual(10)]], record), ticks)

    def test_time_1(self):
        for length, ticks in ((0, 0), (1, 0), (2, 0), (3, 1), (4, 1), (5, 2)):
            record = [(0, 0, "down"), (length, 0, "up")]
            self.assertEqual(slack([[dual(1)]], record), ticks)
            self.assertTrue(is_shaken([[dual(1)]], record, shaken([[dual(1)]], record), ticks + 1))

    def test_records_whose_kinds_always_stay(self):
        plain = [[("code", "x"), "none", ("lock", 1)], ["through", ("layer", 1), ("once", 1)]]
        rules = [[dual(4, "other"), dual(4, "within"), ("code", "x")]]
        for layout, text in (
            (plain, ""), (plain, "0+0 1+1 2+2 0-2 1-3 2-9"), (LAYOUT, ""), (LAYOUT, "0+0"), (LAYOUT, "0+0 1+9 1-9"),
            (rules, "0+0 2+0 0-1 2-9"), (rules, "1+0 2+0 2-0 1-0"),
            (rules, "0+0"), (rules, "1+0"), (rules, "2+0 2-4"), (rules, "1+0 2+1 2-1"),
        ):
            with self.subTest(layout=layout, text=text):
                self.assertIsNone(slack(layout, events(text)))
                self.assertIsNone(shaken(layout, events(text)))

    def test_presses_that_other_keys_do_not_decide(self):
        rules = [[dual(4, "other"), dual(4, "within"), ("code", "x")]]
        for text, ticks in (
            ("2+0 0+1 2-1 0-1", 1), ("2+0 1+1 2-1 1-2", 1), ("1+0 2+1 1-2 2-3", 0), ("0+0 0-9", 2), ("1+0 1-9", 2),
        ):
            with self.subTest(text=text):
                self.assertEqual(slack(rules, events(text)), ticks)

    def test_the_press_that_turns_first(self):
        layout = [[dual(10), dual(20)]]
        self.assertEqual(slack(layout, events("0+0 0-5 1+5 1-22")), 1)
        self.assertEqual(slack(layout, events("0+0 0-3 1+5 1-30")), 2)
        self.assertEqual(slack(layout, events("0+0 0-3 1+5 1-40")), 3)
        self.assertEqual(slack(layout, events("0+0 1+1 0-2 1-60")), 3)

    def test_presses_that_hang_on_one_another(self):
        layout = [[dual(10, hold=("layer", 1)), dual(30)], ["through", dual(3)]]
        self.assertEqual(slack(layout, events("0+0 1+1 1-3 0-200")), 0)
        self.assertEqual(slack(layout, events("0+0 1+1 1-3 0-4")), 2)
        self.assertEqual(slack(layout, events("0+0 0-4 1+5 1-20")), 2)

    def test_equal_ticks_keep_the_sequence_of_their_events(self):
        layout = [[dual(3, "other"), dual(3, "within"), ("code", "x")]]
        for text, ticks in (("0+5 0-5 2+5 2-5", 1), ("2+5 2-5 1+5 1-5", 1), ("1+5 2+5 1-5 2-5", 1)):
            with self.subTest(text=text):
                record = events(text)
                self.assertEqual(slack(layout, record), ticks)
                found = shaken(layout, record)
                self.assertEqual(order_of(found), order_of(record))
                self.assertTrue(is_shaken(layout, record, found, ticks + 1))

    def test_great_ticks(self):
        layout = [[dual(10 ** 9)]]
        record = [(-FAR, 0, "down"), (FAR, 0, "up")]
        self.assertEqual(slack(layout, record), (2 * FAR - 10 ** 9) // 2)
        self.assertTrue(is_shaken(layout, record, shaken(layout, record), slack(layout, record) + 1))
        self.assertFalse(is_shaken(layout, record, shaken(layout, record), slack(layout, record)))
        self.assertEqual(slack(layout, [(FAR, 0, "down"), (FAR, 0, "up")]), 10 ** 9 // 2 - 1)

    def test_records_of_400_events(self):
        layout = [[dual(50), ("code", "x")]]
        record = [(at * 30, 0, "up" if at % 2 else "down") for at in range(400)]
        self.assertEqual(slack(layout, record), 9)
        self.assertTrue(is_shaken(layout, record, shaken(layout, record), 10))
        inner = [(0, 0, "down")] + [(at, 1, "up" if at % 2 else "down") for at in range(398)] + [(420, 0, "up")]
        self.assertEqual(slack(layout, inner), 185)
        found = shaken(layout, inner)
        self.assertEqual(len(found), 400)
        self.assertTrue(is_shaken(layout, inner, found, 186))

    def test_against_all_movings_of_short_records(self):
        for layout, record in short_plays(401, 250):
            with self.subTest(layout=layout, record=record):
                self.check(layout, record)

    def check(self, layout, record):
        own = kinds(layout, record)
        ticks = slack(layout, record)
        if ticks is None:
            self.assertTrue(all(kinds(layout, moved) == own for moved in movings(record, 2)))
            self.assertIsNone(shaken(layout, record))
            return
        if ticks > 0:
            most = min(ticks, 3)
            self.assertTrue(all(kinds(layout, moved) == own for moved in movings(record, most)))
        found = shaken(layout, record)
        self.assertTrue(is_record(found))
        self.assertEqual(order_of(found), order_of(record))
        self.assertTrue(all(abs(a[0] - b[0]) <= ticks + 1 for a, b in zip(found, record)))
        self.assertNotEqual(kinds(layout, found), own)
        self.assertIs(is_shaken(layout, record, found, ticks + 1), True)
        self.assertIs(is_shaken(layout, record, found, ticks), False)


def short_plays(seed, times):
    chance = random.Random(seed)
    for _ in range(times):
        layout = models.some_layout(chance, most_keys=3, most_layers=2, times=7)
        yield layout, models.some_record(chance, len(layout[0]), chance.randint(0, 5), (0, 0, 1, 2, 4, 6))


class TestIsShaken(unittest.TestCase):
    def test_the_example(self):
        self.assertIs(is_shaken(LAYOUT, RECORD, MOVED, 1), True)
        self.assertIs(is_shaken(LAYOUT, RECORD, MOVED, 0), False)

    def test_values_that_are_no_record_with_this_order(self):
        itself = []
        itself.append(itself)
        for value in OTHER_KINDS + [
            itself, [], RECORD, MOVED[:3], MOVED + [(5, 0, "down")], tuple(MOVED), [list(event) for event in MOVED],
            [(-1, 0, "down"), (1, 2, "down"), (2, 2, "up"), (5, 0, "up")], [None] * 4, [None] * 500, MOVED[::-1],
            [(-1, 0, "down"), (2, 1, "down"), (1, 1, "up"), (5, 0, "up")], MOVED[:3] + [(True, 0, "up")],
            [(-1, 1, "down"), (1, 0, "down"), (2, 0, "up"), (5, 1, "up")], MOVED[:3] + [(5.0, 0, "up")],
            [(-1, 0, "down"), (1, 1, "down"), (5, 0, "up"), (5, 1, "up")],
        ]:
            with self.subTest(value=value):
                self.assertIs(is_shaken(LAYOUT, RECORD, value, 1), False)
                self.assertIs(is_shaken(LAYOUT, RECORD, value, 2 * FAR), False)

    def test_a_tick_one_further_than_allowed(self):
        for ticks in ([-2, 1, 2, 4], [0, 1, 2, 6], [-1, -1, 2, 5], [-1, 1, 4, 5]):
            moved = with_ticks(order_of(RECORD), ticks)
            self.assertIs(is_shaken(LAYOUT, RECORD, moved, 2), True)
            self.assertIs(is_shaken(LAYOUT, RECORD, moved, 1), False)

    def test_a_record_with_the_same_kinds(self):
        for ticks in ([0, 1, 2, 4], [1, 1, 2, 5], [0, 0, 1, 3], [-1, 0, 2, 3]):
            self.assertIs(is_shaken(LAYOUT, RECORD, with_ticks(order_of(RECORD), ticks), 1), False)

    def test_other_kinds_with_an_equal_result(self):
        layout = [[dual(5, tap="a", hold=("code", "a"))]]
        self.assertEqual(slack(layout, events("0+0 0-4")), 0)
        self.assertIs(is_shaken(layout, events("0+0 0-4"), events("0+0 0-5"), 1), True)

    def test_the_limits_of_most(self):
        record = [(-FAR, 0, "down"), (FAR, 0, "up")]
        near = [(FAR, 0, "down"), (FAR, 0, "up")]
        self.assertIs(is_shaken([[dual(9)]], record, near, 2 * FAR), True)
        self.assertIs(is_shaken([[dual(9)]], record, near, 2 * FAR - 1), False)
        self.assertIs(is_shaken([[dual(9)]], record, record, 0), False)
        for most in not_integers() + [-1, 2 * FAR + 1, 10 ** 40]:
            with self.subTest(most=most):
                for value in (MOVED, RECORD, None):
                    self.assertEqual(error_of(is_shaken, LAYOUT, RECORD, value, most)[0], "InvalidTick")

    def test_against_its_words(self):
        chance = random.Random(402)
        found = {True: 0, False: 0}
        for layout, record in short_plays(403, 300):
            for most in (1, 2, 4):
                ticks = sorted(event[0] + chance.randint(-most, most) for event in record)
                moved = with_ticks(order_of(record), ticks)
                for allowed in (0, 1, 2, 4):
                    expected = kinds(layout, moved) != kinds(layout, record) and all(
                        abs(a[0] - b[0]) <= allowed for a, b in zip(moved, record)
                    )
                    self.assertIs(is_shaken(layout, record, moved, allowed), expected)
                    found[expected] += 1
        self.assertGreater(min(found.values()), 50)


class TestErrors(unittest.TestCase):
    def test_layouts_and_records(self):
        for layout, fields in NO_LAYOUTS:
            for record in (RECORD, None, [(0, 9, "down")]):
                self.check(("InvalidLayout",) + fields, layout, record)
        for record, index in NO_RECORDS:
            self.check(("InvalidRecord", index), LAYOUT, record)

    def check(self, error, layout, record):
        self.assertEqual(error_of(slack, layout, record), error)
        self.assertEqual(error_of(shaken, layout, record), error)
        for value, most in ((MOVED, 1), (None, 0), (MOVED, -1), (None, None)):
            self.assertEqual(error_of(is_shaken, layout, record, value, most), error)

    def test_kinds_are_those_of_meanings(self):
        for layout, record in short_plays(404, 100):
            told = [meaning[1] for meaning in meanings(layout, record) if meaning]
            self.assertEqual(told, kinds(layout, record))


if __name__ == "__main__":
    unittest.main()
