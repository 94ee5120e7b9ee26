import copy
import itertools
import random
import unittest

from holdtap.layouts import duals
from holdtap.playing import played
from holdtap.records import lengths
from holdtap.times import best_time, by_time, clash, good_times, is_clash
from tests import models
from tests.any_values import OTHER_KINDS, EqualToAll
from tests.samples import LAYOUT, NO_LAYOUTS, NO_RECORDS, RECORD, dual, error_of, events, not_integers

SHORT, LONG = [(0, 0, "down"), (4, 0, "up")], [(0, 0, "down"), (9, 0, "up")]
TAP, HOLD = [("press", "a"), ("release", "a")], [(), ()]
TURNED = [(SHORT, HOLD), (SHORT, HOLD), (LONG, TAP)]
GREATEST = 10 ** 9
ALL = [(1, GREATEST)]
CALLS = [good_times, best_time, clash, lambda *args: is_clash(*args, [0])]


def with_time(layout, layer, key, time):
    changed = copy.deepcopy(layout)
    word, tap, hold, _, rule = changed[layer][key]
    changed[layer][key] = (word, tap, hold, time, rule)
    return changed


def wish(length, kind):
    """A press of key 0 with this length, and the result that it has as a tap or as a hold."""
    return [(0, 0, "down"), (length, 0, "up")], TAP if kind == "tap" else HOLD


class TestByTime(unittest.TestCase):
    def test_the_example(self):
        ranges = by_time(LAYOUT, RECORD, 0, 0)
        self.assertEqual([(first, last) for first, last, result in ranges], [(1, 4), (5, GREATEST)])
        self.assertEqual([result for first, last, result in ranges], [
            [(), ("press", "1"), ("release", "1"), ()],
            [("press", "a"), ("press", "x"), ("release", "x"), ("release", "a")],
        ])
        self.assertEqual(error_of(by_time, LAYOUT, [], 0, 1)[0], "InvalidPlace")

    def check_ranges(self, layout, record, layer, key, expected):
        found = by_time(layout, record, layer, key)
        self.assertEqual([(first, last) for first, last, result in found], expected)
        for first, last, result in found:
            self.assertEqual(result, played(with_time(layout, layer, key, first), record))
            self.assertEqual(result, played(with_time(layout, layer, key, last), record))

    def test_no_press_and_presses_without_a_length(self):
        for text in ("", "0+0", "1+0 1-7", "1+0 0+3"):
            self.check_ranges([[dual(5), ("code", "x")]], events(text), 0, 0, ALL)

    def test_one_and_several_lengths(self):
        layout = [[dual(5), ("code", "x")]]
        self.check_ranges(layout, events("0+0 0-7"), 0, 0, [(1, 7), (8, GREATEST)])
        self.check_ranges(layout, events("0+0 0-7 0+9 0-12"), 0, 0, [(1, 3), (4, 7), (8, GREATEST)])
        self.check_ranges(layout, events("0+0 0-7 0+9 0-16 0+20"), 0, 0, [(1, 7), (8, GREATEST)])
        self.check_ranges(layout, events("1+0 0+1 1-5 0-8"), 0, 0, [(1, 7), (8, GREATEST)])

    def test_length_0_is_a_tap_at_each_time(self):
        self.check_ranges([[dual(5)]], events("0+3 0-3"), 0, 0, ALL)
        self.assertEqual(by_time([[dual(5)]], events("0+3 0-3"), 0, 0), [(1, GREATEST, TAP[:1] + TAP[1:])])

    def test_lengths_of_10_to_the_9_and_more(self):
        for length, expected in (
            (GREATEST - 2, [(1, GREATEST - 2), (GREATEST - 1, GREATEST)]),
            (GREATEST - 1, [(1, GREATEST - 1), (GREATEST, GREATEST)]),
            (GREATEST, ALL), (GREATEST + 1, ALL), (2 * 10 ** 15, ALL),
        ):
            with self.subTest(length=length):
                self.check_ranges([[dual(5, hold=("code", "b"))]], [(0, 0, "down"), (length, 0, "up")], 0, 0, expected)

    def test_ranges_with_equal_results_are_one(self):
        same = [[dual(5, tap="a", hold=("code", "a"))]]
        self.check_ranges(same, events("0+0 0-7"), 0, 0, ALL)
        layout = [[dual(5), ("layer", 1)], [("code", "x"), "through"]]
        self.check_ranges(layout, events("1+0 0+1 0-6 1-7 0+9 0-10"), 0, 0, [(1, 1), (2, GREATEST)])
        self.check_ranges(layout, events("1+0 0+1 0-6"), 0, 0, ALL)

    def test_a_dual_whose_press_other_keys_decide(self):
        layout = [[dual(5, "other"), ("code", "x")]]
        self.check_ranges(layout, events("0+0 1+1 1-2 0-4"), 0, 0, ALL)
        layout = [[dual(5, "within"), ("code", "x")]]
        self.check_ranges(layout, events("0+0 1+1 0-4 1-5"), 0, 0, [(1, 4), (5, GREATEST)])
        self.check_ranges(layout, events("0+0 1+1 1-4 0-5"), 0, 0, ALL)

    def test_only_this_place_changes(self):
        layout = [[dual(5), dual(3)], [dual(2), "through"], ["through", dual(9)]]
        record = events("0+0 0-4 1+5 1-8")
        self.check_ranges(layout, record, 0, 0, [(1, 4), (5, GREATEST)])
        self.check_ranges(layout, record, 0, 1, [(1, 3), (4, GREATEST)])
        self.check_ranges(layout, record, 1, 0, ALL)
        self.check_ranges(layout, record, 2, 1, ALL)

    def test_a_time_that_changes_what_other_presses_are(self):
        layout = [[dual(5, hold=("layer", 1)), dual(3)], ["through", dual(7, tap="c", hold=("code", "d"))]]
        record = events("0+0 1+1 1-5 0-6")
        self.check_ranges(layout, record, 0, 0, [(1, 6), (7, GREATEST)])
        self.check_ranges(layout, record, 1, 1, [(1, 4), (5, GREATEST)])
        self.check_ranges(layout, record, 0, 1, ALL)

    def test_against_its_words(self):
        chance = random.Random(411)
        tried = 0
        for layout, record in models.some_plays(412, 250):
            if not duals(layout):
                continue
            layer, key = chance.choice(duals(layout))
            tried += 1
            found = by_time(layout, record, layer, key)
            self.assertEqual((found[0][0], found[-1][1]), ALL[0])
            allowed = [1] + [
                length + 1 for event, length in zip(record, lengths(record))
                if event[1] == key and length is not None
            ]
            for before, behind in zip(found, found[1:]):
                self.assertEqual(before[1] + 1, behind[0])
                self.assertNotEqual(before[2], behind[2])
            for first, last, result in found:
                self.assertIn(first, allowed)
                self.assertIs(type(result), list)
                for time in {first, last, (first + last) // 2, min(first + 1, last)}:
                    self.assertEqual(models.played(with_time(layout, layer, key, time), record), result)
        self.assertGreater(tried, 150)

    def test_records_of_200_events(self):
        layout = [[dual(5), ("code", "x")]]
        record, tick = [], 0
        for length in range(100):
            record += [(tick, 0, "down"), (tick + 7 * length, 0, "up")]
            tick += 7 * length + 1
        found = by_time(layout, record, 0, 0)
        self.assertEqual([first for first, last, result in found], [1] + [7 * n + 1 for n in range(1, 100)])


class TestGoodTimes(unittest.TestCase):
    def test_the_example(self):
        wishes = [(SHORT, TAP), (LONG, HOLD)]
        self.assertEqual(good_times(LAYOUT, wishes, 0, 0), [(5, 9)])
        self.assertEqual(best_time(LAYOUT, wishes, 0, 0), 7)
        self.assertEqual(good_times(LAYOUT, TURNED, 0, 0), [])
        self.assertIsNone(best_time(LAYOUT, TURNED, 0, 0))

    def test_one_and_twelve_wishes(self):
        self.assertEqual(good_times(LAYOUT, [(SHORT, TAP)], 0, 0), [(5, GREATEST)])
        self.assertEqual(good_times(LAYOUT, [(SHORT, HOLD)], 0, 0), [(1, 4)])
        wishes = [wish(length, "tap") for length in range(6)] + [wish(length, "hold") for length in range(20, 26)]
        layout = [[LAYOUT[0][0]], ["through"]]
        self.assertEqual(len(wishes), 12)
        self.assertEqual(good_times(layout, wishes, 0, 0), [(6, 20)])
        self.assertEqual(best_time(layout, wishes, 0, 0), 13)
        self.assertIsNone(clash(layout, wishes, 0, 0))

    def test_the_same_wish_several_times(self):
        for many in (2, 5, 12):
            self.assertEqual(good_times(LAYOUT, [(SHORT, TAP)] * many, 0, 0), [(5, GREATEST)])

    def test_an_empty_record(self):
        self.assertEqual(good_times(LAYOUT, [([], [])], 0, 0), ALL)
        self.assertEqual(best_time(LAYOUT, [([], [])], 0, 0), 500000000)

    def test_a_result_that_no_time_gives(self):
        for result in ([(), ("press", "a")], [("press", "zzzzzzz9"), ()], [("release", "a"), ("press", "a")]):
            self.assertEqual(good_times(LAYOUT, [(SHORT, result)], 0, 0), [])
            self.assertIsNone(best_time(LAYOUT, [(SHORT, result)], 0, 0))
            self.assertEqual(clash(LAYOUT, [(SHORT, TAP), (SHORT, result), (LONG, TAP)], 0, 0), [1])

    def test_several_ranges(self):
        layout = [[dual(5, hold=("layer", 1)), ("code", "x")], ["through", "through"]]
        record = events("0+0 0-3 0+10 0-20")
        ranges = by_time(layout, record, 0, 0)
        self.assertEqual([part[:2] for part in ranges], [(1, 3), (4, 10), (11, GREATEST)])
        for first, last, result in ranges:
            self.assertEqual(good_times(layout, [(record, result)], 0, 0), [(first, last)])

    def test_ranges_that_touch_are_told_as_one(self):
        same = [[dual(5, tap="a", hold=("code", "a"))]]
        record = events("0+0 0-3 0+10 0-20")
        result = [("press", "a"), ("release", "a")] * 2
        self.assertEqual(good_times(same, [(record, result)], 0, 0), ALL)
        layout = [[dual(5, hold=("layer", 1)), ("code", "x")], ["through", "through"]]
        wishes = [(events("0+0 0-3"), HOLD), (events("1+0 1-9"), [("press", "x"), ("release", "x")])]
        self.assertEqual(good_times(layout, wishes, 0, 0), [(1, 3)])

    def test_ranges_that_meet_in_one_time_or_in_none(self):
        layout = [[LAYOUT[0][0]], ["through"]]
        self.assertEqual(good_times(layout, [wish(6, "tap"), wish(7, "hold")], 0, 0), [(7, 7)])
        self.assertEqual(best_time(layout, [wish(6, "tap"), wish(7, "hold")], 0, 0), 7)
        self.assertEqual(good_times(layout, [wish(7, "tap"), wish(7, "hold")], 0, 0), [])
        self.assertEqual(good_times(layout, [wish(8, "tap"), wish(7, "hold")], 0, 0), [])

    def test_against_its_words(self):
        for layout, wishes, layer, key in some_wishes(421, 150):
            good = good_times(layout, wishes, layer, key)
            self.assertEqual(good, sorted(good))
            for before, behind in zip(good, good[1:]):
                self.assertLess(before[1] + 1, behind[0])
            for time in list(range(1, 40)) + [GREATEST - 1, GREATEST]:
                changed = with_time(layout, layer, key, time)
                expected = all(models.played(changed, record) == result for record, result in wishes)
                self.assertEqual(any(first <= time <= last for first, last in good), expected)


def some_wishes(seed, times):
    """Layouts with a dual and wishes for it, most of which some time fulfils."""
    chance = random.Random(seed)
    while times:
        layout = models.some_layout(chance, most_keys=3, most_layers=2)
        if not duals(layout):
            continue
        layer, key = chance.choice(duals(layout))
        wishes, usual = [], chance.randint(1, 12)
        for _ in range(chance.randint(1, 5)):
            record = models.some_record(chance, len(layout[0]), chance.randint(0, 8))
            time = chance.choice([usual, usual, usual, chance.randint(1, 12)])
            wishes.append((record, models.played(with_time(layout, layer, key, time), record)))
        yield layout, wishes, layer, key
        times -= 1


def some_presses(seed, times):
    """Wishes for single presses of one dual, many of which no time fulfils together."""
    chance = random.Random(seed)
    for _ in range(times):
        wishes = [
            wish(chance.randint(0, 12), chance.choice(["tap", "hold"])) for _ in range(chance.randint(1, 5))
        ]
        yield [[LAYOUT[0][0]], ["through"]], wishes, 0, 0


class TestBestTime(unittest.TestCase):
    LAYOUT = [[LAYOUT[0][0]], ["through"]]

    def test_ranges_of_odd_and_of_even_length(self):
        for tap, hold, expected in (
            (4, 9, 7), (4, 8, 6), (4, 5, 5), (4, 6, 5), (4, 7, 6), (0, 1, 1), (0, 2, 1), (0, 3, 2), (0, 4, 2),
            (99, 200, 150), (99, 199, 149),
        ):
            wishes = [wish(tap, "tap"), wish(hold, "hold")]
            self.assertEqual(good_times(self.LAYOUT, wishes, 0, 0), [(tap + 1, hold)])
            self.assertEqual(best_time(self.LAYOUT, wishes, 0, 0), expected)

    def test_ranges_that_end_at_10_to_the_9(self):
        for tap in (0, 1, 2, 5, GREATEST - 3, GREATEST - 2, GREATEST - 1):
            first = tap + 1
            self.assertEqual(good_times(self.LAYOUT, [wish(tap, "tap")], 0, 0), [(first, GREATEST)])
            self.assertEqual(best_time(self.LAYOUT, [wish(tap, "tap")], 0, 0), (first + GREATEST) // 2)

    def test_against_its_words(self):
        for layout, wishes, layer, key in some_wishes(422, 150):
            best, rated = None, -1
            for first, last in good_times(layout, wishes, layer, key):
                for time in list(range(first, min(last, 60) + 1)) + [(first + last) // 2]:
                    if min(time - first, last - time) > rated:
                        best, rated = time, min(time - first, last - time)
            self.assertEqual(best_time(layout, wishes, layer, key), best)


class TestClash(unittest.TestCase):
    LAYOUT = [[LAYOUT[0][0]], ["through"]]

    def test_the_example(self):
        self.assertIn(clash(LAYOUT, TURNED, 0, 0), [[0, 2], [1, 2]])
        told = [is_clash(LAYOUT, TURNED, 0, 0, value) for value in [[0, 2], [0, 1, 2], [2], []]]
        self.assertEqual(told, [True, False, False, False])

    def test_one_wish_that_no_time_fulfils(self):
        wishes = [(SHORT, TAP), (SHORT, TAP[::-1])]
        self.assertEqual(clash(LAYOUT, wishes, 0, 0), [1])
        for value, expected in (([1], True), ([0, 1], False), ([0], False), ([], False)):
            self.assertIs(is_clash(LAYOUT, wishes, 0, 0, value), expected)

    def test_two_of_twelve(self):
        wishes = [wish(length, "tap") for length in range(6)] + [wish(length, "hold") for length in range(5, 11)]
        self.assertEqual(len(wishes), 12)
        found = clash(self.LAYOUT, wishes, 0, 0)
        self.assertEqual(found, [5, 6])
        self.assertIs(is_clash(self.LAYOUT, wishes, 0, 0, found), True)

    def test_without_a_clash(self):
        wishes = [wish(4, "tap"), wish(9, "hold")]
        self.assertIsNone(clash(self.LAYOUT, wishes, 0, 0))
        for value in ([], [0], [1], [0, 1]):
            self.assertIs(is_clash(self.LAYOUT, wishes, 0, 0, value), False)

    def test_any_value(self):
        itself = []
        itself.append(itself)
        for value in OTHER_KINDS + [
            itself, [2, 0], [0, 0, 2], [0, 2, 2], [0, 3], [-1, 2], [0, -1], (0, 2), [False, 2], ["0", "2"], [None],
            [0, 2.0], [0, EqualToAll()], [0, True, 2], [0, [2]], "02", {0: 2}, [0] * 500, [0, 10 ** 40],
        ]:
            with self.subTest(value=value):
                self.assertIs(is_clash(LAYOUT, TURNED, 0, 0, value), False)
        wishes = [(SHORT, HOLD), (LONG, TAP)]
        self.assertIs(is_clash(LAYOUT, wishes, 0, 0, [0, True]), False)
        self.assertIs(is_clash(LAYOUT, wishes, 0, 0, [0, 1]), True)

    def test_all_values_against_the_words(self):
        clashes = 0
        for layout, wishes, layer, key in list(some_wishes(423, 60)) + list(some_presses(424, 80)):
            def good(numbers):
                some = [wishes[number] for number in numbers]
                return not some or good_times(layout, some, layer, key) != []
            found = clash(layout, wishes, layer, key)
            self.assertEqual(found is None, good(range(len(wishes))))
            clashes += found is not None
            for many in range(len(wishes) + 1):
                for value in itertools.combinations(range(len(wishes)), many):
                    without = [value[:at] + value[at + 1:] for at in range(many)]
                    expected = not good(value) and all(good(part) for part in without)
                    self.assertIs(is_clash(layout, wishes, layer, key, list(value)), expected)
            if found is not None:
                self.assertIs(is_clash(layout, wishes, layer, key, found), True)
                self.assertEqual(found, sorted(found))
        self.assertGreater(clashes, 20)


class TestErrors(unittest.TestCase):
    WISHES = [(SHORT, TAP)]

    def assert_all(self, error, layout, wishes, layer, key):
        for call in CALLS:
            with self.subTest(wishes=wishes, layer=layer, key=key):
                self.assertEqual(error_of(call, layout, wishes, layer, key), error)

    def test_layouts_come_first(self):
        for layout, fields in NO_LAYOUTS:
            for wishes, layer, key in ((self.WISHES, 0, 0), (None, 9, None)):
                self.assert_all(("InvalidLayout",) + fields, layout, wishes, layer, key)
            self.assertEqual(error_of(by_time, layout, None, None, None), ("InvalidLayout",) + fields)

    def test_records_come_ahead_of_places(self):
        for record, index in NO_RECORDS:
            for layer, key in ((0, 0), (0, 1), (None, None)):
                self.assertEqual(error_of(by_time, LAYOUT, record, layer, key), ("InvalidRecord", index))

    def test_wishes_come_ahead_of_places(self):
        for wishes in OTHER_KINDS + [
            [], [(SHORT, TAP)] * 13, ((SHORT, TAP),), [[SHORT, TAP]], [(SHORT,)], [(SHORT, TAP, 0)], [None],
            [(SHORT, TAP[:1])], [(SHORT, TAP + [()])], [(SHORT, tuple(TAP))], [(tuple(SHORT), TAP)], [(SHORT, None)],
            [(SHORT, [None, ()])], [(SHORT, [("press", "A"), ()])], [(SHORT, [("press", ""), ()])],
            [(SHORT, [("press", "abcdefghi"), ()])], [(SHORT, [("hold", "a"), ()])], [(SHORT, [["press", "a"], ()])],
            [(SHORT, [("press", "a", 0), ()])], [(SHORT, [("press",), ()])], [(SHORT, [(), EqualToAll()])],
            [(SHORT, [("press", EqualToAll()), ()])], [(SHORT, [(EqualToAll(), "a"), ()])],
            [(SHORT, TAP), (SHORT, HOLD), None], [(SHORT, TAP)] * 11 + [(LONG, [])], [([(0, 0, "up")], [()])],
            [([(0, 3, "down")], [()])], [(None, [])], [([(0, 0, "down")] * 2, [(), ()])],
        ]:
            for layer, key in ((0, 0), (0, 1), (None, None)):
                for call in CALLS:
                    with self.subTest(wishes=wishes):
                        self.assertEqual(error_of(call, LAYOUT, wishes, layer, key)[0], "InvalidWishes")

    def test_places(self):
        for layer, key in [(0, 1), (1, 0), (0, 3), (2, 0), (-1, 0), (0, -1), (-2, 0), (0, -3), (10 ** 30, 0)] + [
            (value, 0) for value in not_integers()
        ] + [(0, value) for value in not_integers()]:
            with self.subTest(layer=layer, key=key):
                self.assertEqual(error_of(by_time, LAYOUT, RECORD, layer, key)[0], "InvalidPlace")
                for call in CALLS:
                    self.assertEqual(error_of(call, LAYOUT, self.WISHES, layer, key)[0], "InvalidPlace")

    def test_no_error_for_any_value_of_is_clash(self):
        for value in OTHER_KINDS:
            self.assertIs(is_clash(LAYOUT, self.WISHES, 0, 0, value), False)
            self.assertEqual(error_of(is_clash, LAYOUT, self.WISHES, 0, 1, value)[0], "InvalidPlace")


if __name__ == "__main__":
    unittest.main()
