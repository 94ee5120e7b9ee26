import itertools
import random
import unittest

from holdtap.differences import is_ring
from holdtap.errors import InvalidChoice, InvalidGap, InvalidLayout, InvalidOrder, TooLarge
from holdtap.playing import meanings, played
from holdtap.records import with_ticks
from holdtap.timings import choices, results, sure_outputs, ticks_for, why_not
from tests import models
from tests.any_values import OTHER_KINDS, EqualToAll

LAYOUT = [
    [("dual", "a", ("layer", 1), 5, "time"), ("code", "x"), ("once", 1)],
    ["through", ("code", "1"), "through"],
]
TWO = [[("dual", "a", ("layer", 1), 5, "time"), ("dual", "y", ("layer", 1), 5, "time")],
       ["through", "through"]]
NESTED = [(0, "down"), (1, "down"), (1, "up"), (0, "up")]
APART = [(0, "down"), (0, "up"), (1, "down"), (1, "up")]
T, H = "tap", "hold"


def taps(keys):
    return [(key, way) for key in keys for way in ("down", "up")]


def dual(time, rule="time", tap="a", hold=("code", "b")):
    return ("dual", tap, hold, time, rule)


def choice_of(layout, record):
    """The choice that a record makes: the kinds of the presses that their own ups decide."""
    found = []
    for at, meaning in enumerate(meanings(layout, record)):
        if meaning and meaning[1] != "plain":
            rule = layout[meaning[0]][record[at][1]][4]
            decider = models.deciding(record, at, rule)
            if decider is not None and record[decider][1:] == (record[at][1], "up"):
                found.append(meaning[1])
    return tuple(found)


def timings_of(order, gap, most):
    """Records with this order whose distances are from gap to most."""
    for steps in itertools.product(range(gap, most + 1), repeat=max(len(order) - 1, 0)):
        ticks = [sum(steps[:at]) for at in range(len(order))]
        yield with_ticks(order, ticks)


def some_orders(seed, times, most_events=5):
    chance = random.Random(seed)
    for _ in range(times):
        layout = models.some_layout(chance, most_keys=3, times=4)
        yield layout, models.some_order(chance, len(layout[0]), chance.randint(0, most_events))


class TestExamples(unittest.TestCase):
    def test_choices(self):
        self.assertEqual(
            [choices(LAYOUT, NESTED), choices(LAYOUT, NESTED, gap=2), choices(LAYOUT, NESTED, most=1)],
            [[((T,), [0, 0, 0, 0]), ((H,), [0, 0, 0, 5])], [((H,), [0, 2, 4, 6])],
             [((T,), [0, 0, 0, 0])]],
        )

    def test_results_and_sure_outputs(self):
        self.assertEqual(results(LAYOUT, APART), [
            [("press", "a"), ("release", "a"), ("press", "x"), ("release", "x")],
            [(), (), ("press", "x"), ("release", "x")],
        ])
        self.assertEqual(sure_outputs(LAYOUT, APART), [None, None, ("press", "x"), ("release", "x")])

    def test_why_not_and_ticks_for(self):
        self.assertEqual(
            [why_not(TWO, NESTED, (H, T)), why_not(TWO, NESTED, (T, H)) is None], [None, False]
        )
        result = [(), ("press", "y"), ("release", "y"), ()]
        self.assertEqual(ticks_for(TWO, NESTED, result, gap=1), [0, 1, 2, 5])


class TestChoices(unittest.TestCase):
    def test_orders_without_a_dual(self):
        self.assertEqual(choices(LAYOUT, []), [((), [])])
        self.assertEqual(choices(LAYOUT, [], gap=3, most=3), [((), [])])
        self.assertEqual(choices(LAYOUT, taps([1, 2])), [((), [0, 0, 0, 0])])
        self.assertEqual(choices(LAYOUT, taps([1, 2]), gap=7), [((), [0, 7, 14, 21])])
        self.assertEqual(choices([["none"]], [(0, "down")], gap=7, most=9), [((), [0])])
        self.assertEqual(results([["none"]], []), [[]])
        self.assertEqual(sure_outputs([["none"]], []), [])
        self.assertEqual(ticks_for([["none"]], [], []), [])

    def test_a_time_from_both_sides(self):
        for time in (1, 2, 10 ** 9):
            layout = [[dual(time)]]
            self.assertEqual(choices(layout, taps([0])), [((T,), [0, 0]), ((H,), [0, time])])
            self.assertEqual(choices(layout, taps([0]), gap=time), [((H,), [0, time])])
            self.assertEqual(choices(layout, taps([0]), gap=time - 1),
                             [((T,), [0, time - 1]), ((H,), [0, time])])
            self.assertEqual(choices(layout, taps([0]), most=time), [((T,), [0, 0]), ((H,), [0, time])])
            self.assertEqual(choices(layout, taps([0]), most=time - 1), [((T,), [0, 0])])

    def test_most_equal_to_gap(self):
        layout = [[dual(5), ("code", "x")]]
        for gap, kind in ((0, T), (1, T), (2, H), (10 ** 9, H)):
            order = [(0, "down"), (1, "down"), (1, "up"), (0, "up")]
            found = choices(layout, order, gap=gap, most=gap)
            self.assertEqual(found, [((kind,), [0, gap, 2 * gap, 3 * gap])])

    def test_the_limits_of_gap_and_most(self):
        layout = [[dual(10 ** 9)]]
        self.assertEqual(choices(layout, taps([0]), gap=10 ** 9), [((H,), [0, 10 ** 9])])
        self.assertEqual(choices(layout, taps([0]), gap=10 ** 9 - 1, most=10 ** 9),
                         [((T,), [0, 10 ** 9 - 1]), ((H,), [0, 10 ** 9])])
        self.assertEqual(choices(layout, taps([0]), most=10 ** 9), choices(layout, taps([0]), most=None))

    def test_the_last_distances_are_stretched_as_far_as_they_have_to_be(self):
        layout = [[dual(9), ("code", "x")]]
        self.assertEqual(choices(layout, NESTED, most=4), [((T,), [0, 0, 0, 0]), ((H,), [0, 1, 5, 9])])
        self.assertEqual(choices(layout, NESTED, gap=1, most=3), [((T,), [0, 1, 2, 3]), ((H,), [0, 3, 6, 9])])
        self.assertEqual(choices(layout, NESTED, gap=1, most=2), [((T,), [0, 1, 2, 3])])

    def test_the_next_press_can_have_to_begin_later(self):
        layout = [[dual(9), dual(2)]]
        crossed = [(0, "down"), (1, "down"), (0, "up"), (1, "up")]
        self.assertEqual(choices(layout, crossed), [
            ((T, T), [0, 0, 0, 0]), ((T, H), [0, 0, 0, 2]), ((H, T), [0, 8, 9, 9]), ((H, H), [0, 0, 9, 9]),
        ])

    def test_which_presses_are_chosen_can_depend_on_the_items_ahead(self):
        layout = [[dual(5, hold=("layer", 1)), dual(3), dual(4, "other")], ["through", ("code", "x"), dual(2)]]
        self.assertEqual(choices(layout, NESTED), [
            ((T, T), [0, 0, 0, 0]), ((T, H), [0, 0, 3, 3]), ((H,), [0, 0, 0, 5]),
        ])
        order = [(0, "down"), (2, "down"), (1, "down"), (1, "up"), (2, "up"), (0, "up")]
        self.assertEqual([choice for choice, ticks in choices(layout, order)],
                         [(T, T), (T, H), (H, T), (H, H)])
        self.assertEqual(choices(layout, order)[1], ((T, H), [0, 0, 0, 3, 3, 3]))

    def test_presses_that_another_key_decides(self):
        for rule, order in (
            ("other", [(0, "down"), (1, "down"), (0, "up"), (1, "up")]),
            ("within", [(0, "down"), (1, "down"), (1, "up"), (0, "up")]),
        ):
            layout = [[dual(5, rule), ("code", "x")]]
            self.assertEqual(choices(layout, order), [((), [0, 0, 0, 0])])
            self.assertEqual(results(layout, order)[0][0], ("press", "b"))
            self.assertEqual(choices(layout, taps([0])), [((T,), [0, 0]), ((H,), [0, 5])])
        ahead = [(1, "down"), (0, "down"), (1, "up"), (0, "up")]
        for rule in models.RULES:
            self.assertEqual(len(choices([[dual(5, rule), ("code", "x")]], ahead)), 2)

    def test_presses_without_an_up(self):
        layout = [[dual(5), dual(3)]]
        self.assertEqual(choices(layout, [(0, "down")]), [((), [0])])
        self.assertEqual(results(layout, [(0, "down")]), [[("press", "b")]])
        self.assertEqual(choices(layout, [(0, "down"), (1, "down"), (1, "up")]),
                         [((T,), [0, 0, 0]), ((H,), [0, 0, 3])])

    def test_ten_presses(self):
        layout = [[dual(5)]]
        found = choices(layout, taps([0] * 10))
        self.assertEqual([choice for choice, ticks in found], list(itertools.product((T, H), repeat=10)))
        for choice, ticks in found:
            self.assertEqual([b - a for a, b in zip(ticks[::2], ticks[1::2])],
                             [5 if kind == H else 0 for kind in choice])

    def test_ten_presses_within_one_another(self):
        layout = [[dual(10 + key) for key in range(10)]]
        order = [(key, "down") for key in range(10)] + [(key, "up") for key in reversed(range(10))]
        found = choices(layout, order)
        self.assertEqual(len(found), 11)
        self.assertEqual([choice for choice, ticks in found],
                         [(H,) * held + (T,) * (10 - held) for held in range(11)])
        self.assertEqual([choice for choice, ticks in choices(layout, order, gap=1)],
                         [(H,) * held + (T,) * (10 - held) for held in range(4, 11)])

    def test_times_in_higher_layers_count_there(self):
        layout = [[("layer", 1), dual(3)], ["through", dual(8)]]
        order = [(0, "down"), (1, "down"), (0, "up"), (1, "up")]
        self.assertEqual(choices(layout, order), [((T,), [0, 0, 0, 0]), ((H,), [0, 0, 0, 8])])


class TestResults(unittest.TestCase):
    def test_choices_with_one_result(self):
        layout = [[dual(5, tap="a", hold=("code", "a")), dual(3)]]
        order = taps([0, 1])
        self.assertEqual(len(choices(layout, order)), 4)
        self.assertEqual(results(layout, order), [
            [("press", "a"), ("release", "a"), ("press", code), ("release", code)] for code in "ab"
        ])
        self.assertEqual(sure_outputs(layout, order), [("press", "a"), ("release", "a"), None, None])

    def test_the_first_choice_with_a_result_gives_its_ticks(self):
        layout = [[dual(5, tap="a", hold=("code", "a")), dual(3)]]
        order = taps([1, 0])
        result = [("press", "b"), ("release", "b"), ("press", "a"), ("release", "a")]
        self.assertEqual(ticks_for(layout, order, result), [0, 3, 3, 3])
        self.assertEqual(ticks_for(layout, order, result, gap=4), [0, 4, 8, 12])
        self.assertEqual(ticks_for(layout, order, result, gap=4, most=4), [0, 4, 8, 12])
        self.assertEqual(ticks_for(layout, order, result, gap=5), [0, 5, 10, 15])
        self.assertIsNone(ticks_for(layout, order, result, most=2))

    def test_without_gap_and_most_events_can_be_at_one_tick_and_far_apart(self):
        tap, hold = [("press", "a"), ("release", "a")], [("press", "b"), ("release", "b")]
        for time in (1, 10 ** 9):
            layout = [[dual(time)]]
            self.assertEqual([ticks for choice, ticks in choices(layout, taps([0]))], [[0, 0], [0, time]])
            self.assertEqual(results(layout, taps([0])), [tap, hold])
            self.assertEqual(sure_outputs(layout, taps([0])), [None, None])
            self.assertEqual(ticks_for(layout, taps([0]), tap), [0, 0])
            self.assertEqual(ticks_for(layout, taps([0]), hold), [0, time])

    def test_gap_and_most_change_the_results(self):
        tap, hold = [("press", "a"), ("release", "a")], [("press", "b"), ("release", "b")]
        layout = [[dual(5)]]
        for keywords, expected in (
            ({}, [tap, hold]), ({"gap": 4}, [tap, hold]), ({"gap": 5}, [hold]), ({"most": 4}, [tap]),
            ({"most": 5}, [tap, hold]), ({"gap": 4, "most": 4}, [tap]), ({"gap": 5, "most": None}, [hold]),
        ):
            self.assertEqual(results(layout, taps([0]), **keywords), expected)
            sure = expected[0] if len(expected) == 1 else [None, None]
            self.assertEqual(sure_outputs(layout, taps([0]), **keywords), sure)
            for result in (tap, hold):
                found = ticks_for(layout, taps([0]), result, **keywords)
                self.assertEqual(found is not None, result in expected)

    def test_results_of_a_press_that_can_hold_a_layer(self):
        self.assertEqual(results(LAYOUT, NESTED), [
            [("press", "a"), ("press", "x"), ("release", "x"), ("release", "a")],
            [(), ("press", "1"), ("release", "1"), ()],
        ])
        self.assertEqual(sure_outputs(LAYOUT, NESTED), [None] * 4)

    def test_any_value_as_result(self):
        tap = [("press", "a"), ("release", "a")]
        self.assertEqual(ticks_for([[dual(5)]], taps([0]), tap), [0, 0])
        itself = []
        itself.append(itself)
        for value in OTHER_KINDS + [
            itself, [], [()], tuple(tap), [list(output) for output in tap], tap + [()], tap[:1],
            [("press", "b"), ("release", "a")], [("press", "a"), None], [("press", "a", ""), tap[1]],
            [("press",), tap[1]], [EqualToAll(), EqualToAll()], [("press", EqualToAll()), tap[1]],
            [EqualToAll()], [("press", b"a"), tap[1]], [None] * 500, "press a", [("press", "c"), ()],
        ]:
            with self.subTest(value=value):
                self.assertIsNone(ticks_for([[dual(5)]], taps([0]), value))

    def test_lists_are_new(self):
        layout = [[dual(5)]]
        tap = [("press", "a"), ("release", "a")]
        for call in (
            lambda: choices(layout, taps([0])), lambda: results(layout, taps([0])),
            lambda: sure_outputs(layout, taps([0])), lambda: ticks_for(layout, taps([0]), tap),
        ):
            first, second = call(), call()
            kept = repr(second)
            first.clear()
            self.assertEqual(repr(second), kept)
            self.assertEqual(repr(call()), kept)
        found = choices(layout, taps([0]))
        found[0][1].append("changed")
        self.assertEqual(found[1], ((H,), [0, 5]))
        found = results(layout, taps([0]))
        found[0].append("changed")
        self.assertEqual(found[1], [("press", "b"), ("release", "b")])


class TestWhyNot(unittest.TestCase):
    def check_ring(self, layout, order, choice, ring):
        """The ring has only bounds that may stand in it, and is a ring."""
        allowed = [(at, at + 1, 0) for at in range(len(order) - 1)]
        record, whats, kinds = with_ticks(order, [0] * len(order)), [], list(choice)
        for at, (tick, key, way) in enumerate(record):
            if way == "up":
                whats.append(None)
                continue
            layer, action = models.action_for(layout, record, whats)
            if action[0] == "dual":
                up = models.deciding(record, at, action[4])
                kind = H
                if up is not None and record[up][1:] == (key, "up"):
                    kind = kinds.pop(0)
                    bound = (up, at, 1 - action[3]) if kind == T else (at, up, action[3])
                    allowed.append(bound)
                action = ("code", action[1]) if kind == T else action[2]
            whats.append(action)
        self.assertIsInstance(ring, list)
        self.assertTrue(all(type(bound) is tuple and bound in allowed for bound in ring))
        self.assertIs(is_ring(len(order), ring, list(range(len(ring)))), True)
        self.assertGreater(sum(d for i, j, d in ring), 0)

    def test_a_tap_around_a_hold(self):
        ring = why_not(TWO, NESTED, (T, H))
        self.check_ring(TWO, NESTED, (T, H), ring)
        for choice in ((T, T), (H, T), (H, H)):
            self.assertIsNone(why_not(TWO, NESTED, choice))

    def test_times_at_which_it_is_just_possible(self):
        for outer, inner in ((5, 4), (5, 5), (5, 6), (2, 1), (1, 1), (10 ** 9, 10 ** 9 - 1)):
            layout = [[dual(outer), dual(inner)]]
            ring = why_not(layout, NESTED, (T, H))
            self.assertEqual(ring is None, inner < outer)
            if ring is not None:
                self.check_ring(layout, NESTED, (T, H), ring)

    def test_several_holds_in_one_tap(self):
        layout = [[dual(9), dual(3)]]
        for many in range(1, 8):
            order = [(0, "down")] + taps([1] * many) + [(0, "up")]
            ring = why_not(layout, order, (T,) + (H,) * many)
            self.assertEqual(ring is None, 3 * many < 9)
            if ring is not None:
                self.check_ring(layout, order, (T,) + (H,) * many, ring)

    def test_choices_that_are_possible_only_with_some_distances(self):
        self.assertEqual(len(choices(LAYOUT, NESTED, gap=2)), 1)
        self.assertIsNone(why_not(LAYOUT, NESTED, (T,)))
        self.assertIsNone(why_not(LAYOUT, NESTED, (H,)))
        self.assertIsNone(why_not(LAYOUT, [], ()))
        self.assertIsNone(why_not(LAYOUT, taps([1]), ()))
        self.assertIsNone(why_not(LAYOUT, [(0, "down")], ()))

    def test_values_that_are_no_choices(self):
        for value in OTHER_KINDS + [
            (T,), (T, T, T), [T, T], [H, T], (T, None), (T, "Tap"), (T, ""), (T, "plain"), (T, True),
            (T, b"tap"), (T, (T,)), ((T, T),), "taptap", (EqualToAll(), T), (T, EqualToAll()), (T, [T]),
            (None, T), (T, T, None), (T,) * 500,
        ]:
            with self.subTest(value=value), self.assertRaises(InvalidChoice):
                why_not(TWO, NESTED, value)
        with self.assertRaises(InvalidChoice):
            why_not(TWO, [], (T,))
        with self.assertRaises(InvalidChoice):
            why_not(TWO, [(0, "down")], (H,))

    def test_as_many_items_as_the_items_ahead_ask_for(self):
        layout = [[dual(5, hold=("layer", 1)), dual(3)], ["through", ("code", "x")]]
        self.assertIsNone(why_not(layout, NESTED, (H,)))
        self.assertIsNone(why_not(layout, NESTED, (T, H)))
        for choice in ((T,), (H, T), (H, H), (), (T, T, T)):
            with self.assertRaises(InvalidChoice):
                why_not(layout, NESTED, choice)

    def test_each_choice_of_many_orders(self):
        not_possible = 0
        chance = random.Random(90)
        for _ in range(400):
            layout = models.some_layout(chance, most_keys=4, times=6, rules=["time", "time", "within"])
            down = list(range(len(layout[0])))
            order = [(key, way) for way in ("down", "up") for key in chance.sample(down, len(down))]
            possible = [choice for choice, ticks in choices(layout, order)]
            for many in range(5):
                for choice in itertools.product((T, H), repeat=many):
                    try:
                        ring = why_not(layout, order, choice)
                    except InvalidChoice:
                        self.assertNotIn(choice, possible)
                        continue
                    self.assertEqual(ring is None, choice in possible)
                    if ring is not None:
                        not_possible += 1
                        self.check_ring(layout, order, choice, ring)
        self.assertGreater(not_possible, 20)


class TestErrors(unittest.TestCase):
    CALLS = [
        choices, results, sure_outputs, lambda *args, **more: ticks_for(*args, None, **more),
    ]
    LONG = [(1, way) for _ in range(20) for way in ("down", "up")] + [(1, "down")]

    def assert_each(self, error, layout, order, **keywords):
        for call in self.CALLS:
            with self.subTest(order=order, keywords=keywords), self.assertRaises(error) as caught:
                call(layout, order, **keywords)
        return caught.exception

    def test_layouts(self):
        for layout, fields in ((None, (None, None)), ([["through"]], (0, 0)), ([], (None, None))):
            error = self.assert_each(InvalidLayout, layout, None, gap=None, most=-1)
            self.assertEqual((error.layer, error.key), fields)
            with self.assertRaises(InvalidLayout):
                why_not(layout, None, None)

    def test_orders(self):
        for index, order in (
            (None, None), (None, tuple(NESTED)), (None, [None] * 401), (0, [None]), (0, [(0, "up")]),
            (0, [(3, "down")]), (1, [(0, "down"), (3, "down"), None]), (1, [(0, "down"), (0, "down")]),
            (0, [(0, 0, "down")]), (1, [(1, "down"), (10 ** 30, "down")]), (2, NESTED[:2] + [(2, "up")]),
            (41, self.LONG + [(1, "down")]),
        ):
            error = self.assert_each(InvalidOrder, LAYOUT, order, gap=None, most=-1)
            self.assertEqual(error.index, index)
            with self.assertRaises(InvalidOrder) as caught:
                why_not(LAYOUT, order, None)
            self.assertEqual(caught.exception.index, index)

    def test_gaps(self):
        for gap in OTHER_KINDS + [10 ** 9 + 1, -1, 10 ** 30, [0], (0,), "0"]:
            if type(gap) is int and gap in (0, 1):
                continue
            for order in (NESTED, [], self.LONG):
                self.assert_each(InvalidGap, LAYOUT, order, gap=gap)
                self.assert_each(InvalidGap, LAYOUT, order, gap=gap, most=10 ** 9)
        for most in OTHER_KINDS + [10 ** 9 + 1, -1, 10 ** 30, [9], (9,), "9"]:
            if most is None or (type(most) is int and most in (0, 1)):
                continue
            for order in (NESTED, [], self.LONG):
                self.assert_each(InvalidGap, LAYOUT, order, most=most)
        for gap, most in ((1, 0), (2, 1), (10 ** 9, 10 ** 9 - 1), (None, 5), (5, True), (0, False)):
            self.assert_each(InvalidGap, LAYOUT, NESTED, gap=gap, most=most)
        for gap, most in ((0, 0), (1, 1), (10 ** 9, 10 ** 9), (0, 10 ** 9), (10 ** 9, None)):
            for call in self.CALLS:
                call(LAYOUT, NESTED, gap=gap, most=most)

    def test_40_and_41_events(self):
        order = self.LONG[:40]
        for call in self.CALLS:
            call(LAYOUT, order)
        self.assertEqual(choices(LAYOUT, order), [((), [0] * 40)])
        self.assertIsNone(why_not(LAYOUT, order, ()))
        for many in (41, 42, 400):
            longer = (self.LONG[:2] * 200)[:many]
            self.assertEqual(self.assert_each(TooLarge, LAYOUT, longer).limit, 40)
            with self.assertRaises(TooLarge) as caught:
                why_not(LAYOUT, longer, ())
            self.assertEqual(caught.exception.limit, 40)

    def test_ten_and_eleven_downs_of_keys_with_a_dual(self):
        for layout in (LAYOUT, [[("code", "a"), ("code", "x")], [dual(5), ("code", "y")]]):
            ten = taps([0] * 10 + [1] * 5)
            for call in self.CALLS:
                call(layout, ten)
            for keys in ([0] * 11, [0] * 10 + [1, 0], [0] * 15):
                self.assertEqual(self.assert_each(TooLarge, layout, taps(keys)).limit, 10)
                open_at_the_end = taps(keys)[:-1]
                self.assertEqual(self.assert_each(TooLarge, layout, open_at_the_end).limit, 10)
        self.assertEqual(self.assert_each(TooLarge, LAYOUT, taps([0] * 21)).limit, 40)
        locked = [[("lock", 1), ("code", "x")], ["through", dual(5)]]
        self.assertEqual(self.assert_each(TooLarge, locked, taps([1] * 11)).limit, 10)

    def test_why_not_looks_at_the_choice_ahead_of_the_size(self):
        with self.assertRaises(InvalidChoice):
            why_not(LAYOUT, taps([0] * 11), (T,) * 10)
        with self.assertRaises(TooLarge) as caught:
            why_not(LAYOUT, taps([0] * 11), (T,) * 11)
        self.assertEqual(caught.exception.limit, 10)
        with self.assertRaises(InvalidChoice):
            why_not(LAYOUT, taps([0] * 200), (T,) * 199)
        with self.assertRaises(TooLarge) as caught:
            why_not(LAYOUT, taps([0] * 200), (T, H) * 100)
        self.assertEqual(caught.exception.limit, 40)

    def test_gap_and_most_are_passed_by_name(self):
        for call in (choices, results, sure_outputs):
            with self.assertRaises(TypeError):
                call(LAYOUT, NESTED, 0, None)
        with self.assertRaises(TypeError):
            ticks_for(LAYOUT, NESTED, [], 0, None)


class TestAgainstAllTimings(unittest.TestCase):
    def test_choices_results_and_least_ticks(self):
        for layout, order in some_orders(91, 120):
            for gap, most in ((0, 4), (1, 4), (0, 2), (2, 3)):
                with self.subTest(layout=layout, order=order, gap=gap, most=most):
                    self.check(layout, order, gap, most)

    def check(self, layout, order, gap, most):
        found = {}
        for record in timings_of(order, gap, most):
            found.setdefault(choice_of(layout, record), []).append(record)
        ordered = sorted(found, key=lambda choice: [kind == H for kind in choice])
        expected, given = [], []
        for choice in ordered:
            columns = zip(*[[event[0] for event in record] for record in found[choice]])
            expected.append((choice, [min(column) for column in columns]))
            given.append(played(layout, found[choice][0]))
            self.assertIn(with_ticks(order, expected[-1][1]), found[choice])
            for record in found[choice]:
                self.assertEqual(played(layout, record), given[-1])
        self.assertEqual(choices(layout, order, gap=gap, most=most), expected)
        different = [result for at, result in enumerate(given) if result not in given[:at]]
        self.assertEqual(results(layout, order, gap=gap, most=most), different)
        self.assertEqual(sure_outputs(layout, order, gap=gap, most=most), [
            column[0] if len(set(column)) == 1 else None for column in zip(*different)
        ])
        for result in different:
            ticks = expected[given.index(result)][1]
            self.assertEqual(ticks_for(layout, order, result, gap=gap, most=most), ticks)
        if most == 4:
            unlimited = [choice for choice, ticks in choices(layout, order, gap=gap)]
            self.assertEqual(unlimited, ordered)

    def test_records_make_one_of_the_choices(self):
        for layout, record in models.some_plays(92, 400):
            order = [(key, way) for tick, key, way in record]
            steps = [b[0] - a[0] for a, b in zip(record, record[1:])]
            gap, most = min(steps, default=0), max(steps, default=0)
            made = choice_of(layout, record)
            try:
                found = choices(layout, order, gap=gap, most=most)
            except TooLarge:
                continue
            self.assertIn(made, [choice for choice, ticks in found])
            self.assertIn(played(layout, record), results(layout, order, gap=gap, most=most))
            for choice, ticks in found:
                self.assertEqual(choice_of(layout, with_ticks(order, ticks)), choice)
            least = dict(found)[made]
            self.assertTrue(all(tick <= event[0] - record[0][0] for tick, event in zip(least, record)))
            self.assertIsNone(why_not(layout, order, made))


if __name__ == "__main__":
    unittest.main()
