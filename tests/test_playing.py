import unittest

from holdtap.board import outputs
from holdtap.playing import codes_down, flat, layers_on, meanings, played, sure_by
from holdtap.records import ended, is_whole
from tests import models

LAYOUT = [
    [("dual", "a", ("layer", 1), 5, "time"), ("code", "x"), ("once", 1)],
    ["through", ("code", "1"), "through"],
]
RECORD = [(0, 0, "down"), (1, 1, "down"), (2, 1, "up"), (4, 0, "up")]
HELD = RECORD[:3] + [(5, 0, "up")]
FAR = 10 ** 15


def duals_of(rule, time=5):
    """Key 0 is a dual, a when tapped and b when held; the keys 1 and 2 are plain."""
    return [[("dual", "a", ("code", "b"), time, rule), ("code", "x"), ("code", "y")]]


def letters(layout, record):
    """The outputs in short: +a for a press of a, -a for a release, . for none."""
    signs = {"press": "+", "release": "-"}
    return " ".join(signs[out[0]] + out[1] if out else "." for out in played(layout, record))


def kinds(layout, record):
    return [meaning[1] for meaning in meanings(layout, record) if meaning]


def taps(keys):
    """A record that taps these keys, one behind the other."""
    return [
        (2 * at + up, key, "up" if up else "down") for at, key in enumerate(keys) for up in (0, 1)
    ]


class TestExamples(unittest.TestCase):
    def test_played_and_flat(self):
        self.assertEqual(
            [played(LAYOUT, RECORD), played(LAYOUT, HELD), flat(LAYOUT, RECORD[:3])],
            [
                [("press", "a"), ("press", "x"), ("release", "x"), ("release", "a")],
                [(), ("press", "1"), ("release", "1"), ()],
                [("press", "1"), ("release", "1")],
            ],
        )

    def test_once(self):
        record = [(0, 2, "down"), (1, 2, "up"), (2, 1, "down"), (3, 1, "up"), (4, 1, "down")]
        expected = [(), (), ("press", "1"), ("release", "1"), ("press", "x")]
        self.assertEqual(played(LAYOUT, record), expected)

    def test_meanings(self):
        self.assertEqual(
            [meanings(LAYOUT, RECORD), meanings(LAYOUT, RECORD[:3])],
            [
                [(0, "tap", ("code", "a")), (0, "plain", ("code", "x")), None, None],
                [(0, "hold", ("layer", 1)), (1, "plain", ("code", "1")), None],
            ],
        )

    def test_sure_by(self):
        self.assertEqual(
            [sure_by(LAYOUT, RECORD), sure_by(LAYOUT, HELD)],
            [[3, None, None, None], [None, None, None, None]],
        )

    def test_layers_on_and_codes_down(self):
        self.assertEqual(
            [
                layers_on(LAYOUT, RECORD[:2]), codes_down(LAYOUT, RECORD[:2]),
                layers_on(LAYOUT, RECORD), codes_down(LAYOUT, RECORD),
            ],
            [[0, 1], ["1"], [0], []],
        )


class TestRules(unittest.TestCase):
    def check(self, rule, record, kind, sure, text, time=5):
        """What the dual press at the first down of key 0 is, and which event decides it in time."""
        layout = duals_of(rule, time)
        at = [event[1:] for event in record].index((0, "down"))
        with self.subTest(rule=rule, record=record):
            self.assertEqual(meanings(layout, record)[at][1], kind)
            self.assertEqual(sure_by(layout, record)[at], sure)
            self.assertEqual(letters(layout, record), text)

    def test_the_up_of_the_key_one_tick_ahead_of_the_end_and_at_it(self):
        for rule in models.RULES:
            self.check(rule, [(7, 0, "down"), (11, 0, "up")], "tap", 1, "+a -a")
            self.check(rule, [(7, 0, "down"), (12, 0, "up")], "hold", None, "+b -b")
            self.check(rule, [(7, 0, "down"), (13, 0, "up")], "hold", None, "+b -b")
            self.check(rule, [(7, 0, "down"), (7, 0, "up")], "tap", 1, "+a -a")

    def test_a_time_of_one_tick(self):
        for rule in models.RULES:
            self.check(rule, [(7, 0, "down"), (7, 0, "up")], "tap", 1, "+a -a", time=1)
            self.check(rule, [(7, 0, "down"), (8, 0, "up")], "hold", None, "+b -b", time=1)

    def test_the_greatest_time(self):
        for rule in models.RULES:
            for start in (-FAR, -1, FAR):
                end = start + 10 ** 9
                self.check(rule, [(start, 0, "down"), (end - 1, 0, "up")], "tap", 1, "+a -a", 10 ** 9)
                self.check(rule, [(start, 0, "down"), (end, 0, "up")], "hold", None, "+b -b", 10 ** 9)

    def test_a_down_of_another_key(self):
        for tick, sure in ((7, 1), (11, 1), (12, None), (13, None)):
            record = [(7, 0, "down"), (tick, 1, "down"), (tick, 0, "up"), (tick, 1, "up")]
            self.check("other", record, "hold", sure, "+b +x -b -x")
        record = [(7, 0, "down"), (8, 1, "down"), (9, 0, "up"), (9, 1, "up")]
        self.check("time", record, "tap", 2, "+a +x -a -x")
        self.check("within", record, "tap", 2, "+a +x -a -x")

    def test_an_up_of_another_key_that_went_down_behind_the_dual(self):
        for tick, sure in ((7, 2), (11, 2), (12, None), (13, None)):
            record = [(7, 0, "down"), (7, 1, "down"), (tick, 1, "up"), (tick, 0, "up")]
            self.check("within", record, "hold", sure, "+b +x -x -b")
        record = [(7, 0, "down"), (8, 1, "down"), (9, 1, "up"), (11, 0, "up")]
        self.check("time", record, "tap", 3, "+a +x -x -a")
        self.check("other", record, "hold", 1, "+b +x -x -b")

    def test_an_up_of_another_key_that_went_down_ahead_of_the_dual(self):
        record = [(6, 1, "down"), (7, 0, "down"), (8, 1, "up"), (11, 0, "up")]
        for rule in models.RULES:
            self.check(rule, record, "tap", 3, "+x +a -x -a")
        again = record[:3] + [(9, 1, "down"), (10, 1, "up"), (11, 0, "up")]
        self.check("time", again, "tap", 5, "+x +a -x +x -x -a")
        self.check("other", again, "hold", 3, "+x +b -x +x -x -b")
        self.check("within", again, "hold", 4, "+x +b -x +x -x -b")

    def test_the_first_one_of_several_events_decides(self):
        record = [
            (0, 0, "down"), (1, 1, "down"), (1, 2, "down"), (2, 2, "up"), (3, 1, "up"), (4, 0, "up"),
        ]
        self.check("time", record, "tap", 5, "+a +x +y -y -x -a")
        self.check("other", record, "hold", 1, "+b +x +y -y -x -b")
        self.check("within", record, "hold", 3, "+b +x +y -y -x -b")

    def test_the_up_of_a_later_press_decides_nothing(self):
        record = [(0, 0, "down"), (9, 0, "up"), (9, 0, "down"), (10, 0, "up"), (10, 1, "down")]
        for rule in models.RULES:
            self.assertEqual(kinds(duals_of(rule), record), ["hold", "tap", "plain"])
            self.assertEqual(sure_by(duals_of(rule), record), [None, None, 3, None, None])

    def test_events_at_the_tick_of_the_down(self):
        down = [(7, 0, "down"), (7, 1, "down"), (7, 1, "up")]
        self.check("time", down, "hold", None, "+b +x -x")
        self.check("other", down, "hold", 1, "+b +x -x")
        self.check("within", down, "hold", 2, "+b +x -x")
        ahead = [(7, 1, "down"), (7, 0, "down"), (7, 1, "up"), (7, 0, "up")]
        for rule in models.RULES:
            self.check(rule, ahead, "tap", 3, "+x +a -x -a")
        first = [(7, 1, "down"), (7, 1, "up"), (7, 0, "down"), (7, 0, "up"), (7, 1, "down")]
        for rule in models.RULES:
            self.check(rule, first, "tap", 3, "+x -x +a -a +x")

    def test_a_press_without_an_up_is_a_hold(self):
        for rule in models.RULES:
            self.check(rule, [(7, 0, "down")], "hold", None, "+b")
            self.check(rule, [(6, 1, "down"), (7, 0, "down"), (8, 1, "up")], "hold", None, "+x +b -x")
        self.check("time", [(7, 0, "down"), (8, 1, "down"), (9, 1, "up")], "hold", None, "+b +x -x")
        self.check("other", [(7, 0, "down"), (8, 1, "down"), (9, 1, "up")], "hold", 1, "+b +x -x")
        self.check("within", [(7, 0, "down"), (8, 1, "down"), (9, 1, "up")], "hold", 2, "+b +x -x")
        self.check("within", [(7, 0, "down"), (8, 1, "down")], "hold", None, "+b +x")

    def test_the_down_of_another_key_decides_whatever_that_key_does(self):
        for action in ("none", ("code", "x"), ("layer", 1), ("lock", 1), ("once", 1),
                       ("dual", "x", ("code", "y"), 9, "time")):
            layout = [[("dual", "a", ("code", "b"), 5, "other"), action], ["none", "none"]]
            record = [(0, 0, "down"), (1, 1, "down"), (2, 0, "up"), (3, 1, "up")]
            self.assertEqual(sure_by(layout, record)[0], 1)
            self.assertEqual(kinds(layout, record)[0], "hold")

    def test_duals_that_wait_together(self):
        layout = [[("dual", "a", ("layer", 1), 5, "time"), ("dual", "b", ("code", "c"), 5, "within")],
                  ["through", ("dual", "d", ("code", "e"), 1, "other")]]
        record = [(0, 0, "down"), (1, 1, "down"), (2, 1, "up"), (4, 0, "up")]
        self.assertEqual(letters(layout, record), "+a +b -b -a")
        self.assertEqual(sure_by(layout, record), [3, 2, None, None])
        self.assertEqual(letters(layout, record[:3] + [(5, 0, "up")]), ". +e -e .")
        self.assertEqual(sure_by(layout, record[:3] + [(5, 0, "up")]), [None] * 4)


class TestLayers(unittest.TestCase):
    def test_through_over_one_and_over_several_layers(self):
        layers = [
            [("lock", 1), ("lock", 2), ("lock", 3), ("code", "x")],
            ["through", "through", "through", ("code", "y")],
            ["through"] * 4,
            ["through"] * 4,
        ]
        for keys, layer, code in (
            ([], 0, "x"), ([0], 1, "y"), ([1], 0, "x"), ([2], 0, "x"), ([1, 2], 0, "x"),
            ([0, 1], 1, "y"), ([0, 1, 2], 1, "y"), ([2, 1, 0], 1, "y"), ([0, 2], 1, "y"),
        ):
            record = taps(keys) + [(99, 3, "down")]
            with self.subTest(keys=keys):
                self.assertEqual(meanings(layers, record)[-1], (layer, "plain", ("code", code)))
                self.assertEqual(layers_on(layers, record), sorted([0] + [key + 1 for key in keys]))

    def test_the_highest_layer_first(self):
        layers = [[("lock", 1), ("lock", 2), ("code", "x")]] + [
            ["through", "through", ("code", code)] for code in ("y", "z")
        ]
        for keys, code in (([], "x"), ([0], "y"), ([1], "z"), ([0, 1], "z"), ([1, 0], "z")):
            self.assertEqual(flat(layers, taps(keys + [2]))[0], ("press", code))

    def test_none_lies_over_the_layers_below(self):
        layers = [[("lock", 1), ("code", "x")], ["through", "none"]]
        self.assertEqual(letters(layers, taps([1, 0, 1, 0, 1])), "+x -x . . . . . . +x -x")

    def test_lock_twice(self):
        layers = [[("lock", 1), ("code", "x")], ["through", ("code", "y")]]
        text = "+x -x . . +y -y . . +x -x . . +y -y"
        self.assertEqual(letters(layers, taps([1, 0, 1, 0, 1, 0, 1])), text)
        for many in range(5):
            expected = [0, 1] if many % 2 else [0]
            self.assertEqual(layers_on(layers, taps([0] * many)), expected)

    def test_lock_is_done_at_the_down(self):
        layers = [[("lock", 1), ("code", "x")], ["through", ("code", "y")]]
        self.assertEqual(layers_on(layers, [(0, 0, "down")]), [0, 1])
        self.assertEqual(letters(layers, [(0, 0, "down"), (0, 1, "down"), (0, 0, "up")]), ". +y .")

    def test_once_ends_behind_each_kind_of_action(self):
        for action in ("none", ("code", "x"), ("layer", 2), ("lock", 2), ("once", 2),
                       ("dual", "x", ("code", "y"), 9, "time"), ("dual", "x", ("layer", 2), 9, "time")):
            layers = [[("once", 1), action, ("code", "a")], ["through", "through", ("code", "b")],
                      ["through"] * 3]
            with self.subTest(action=action):
                self.assertEqual(layers_on(layers, taps([0])), [0, 1])
                self.assertEqual(flat(layers, taps([0, 2]))[0], ("press", "b"))
                self.assertNotIn(1, layers_on(layers, taps([0, 1])))
                self.assertEqual(flat(layers, taps([0, 1, 2]))[-2], ("press", "a"))

    def test_once_serves_one_down_and_this_one_alone(self):
        layers = [[("once", 1), ("code", "a")], ["through", ("code", "b")]]
        record = [(0, 0, "down"), (1, 0, "up"), (2, 1, "down")]
        self.assertEqual(layers_on(layers, record[:1]), [0, 1])
        self.assertEqual(layers_on(layers, record[:2]), [0, 1])
        self.assertEqual(layers_on(layers, record), [0])
        self.assertEqual(letters(layers, taps([0, 1, 1])), ". . +b -b +a -a")
        held = [(0, 0, "down"), (1, 1, "down"), (2, 1, "up"), (3, 1, "down"), (4, 0, "up")]
        self.assertEqual(letters(layers, held), ". +b -b +a .")

    def test_once_in_the_waiting_layer_waits_again(self):
        layers = [[("once", 1), ("code", "a")], [("once", 2), ("code", "b")], ["through", ("code", "c")]]
        self.assertEqual(layers_on(layers, taps([0])), [0, 1])
        self.assertEqual(layers_on(layers, taps([0, 0])), [0, 2])
        self.assertEqual(letters(layers, taps([0, 0, 1, 1])), ". . . . +c -c +a -a")
        same = [[("once", 1), ("code", "a")], ["through", ("code", "b")]]
        self.assertEqual(letters(same, taps([0, 0, 1, 1])), ". . . . +b -b +a -a")

    def test_a_layer_that_waits_and_is_locked_or_held_stays_on(self):
        layers = [[("once", 1), ("lock", 1), ("layer", 1), ("code", "a")],
                  ["through"] * 3 + [("code", "b")]]
        self.assertEqual(letters(layers, taps([1, 0, 3, 3, 1, 3])), ". . . . +b -b +b -b . . +a -a")
        held = [(0, 2, "down"), (1, 0, "down"), (2, 0, "up")]
        self.assertEqual(layers_on(layers, held + [(3, 3, "down")]), [0, 1])
        self.assertEqual(layers_on(layers, held + [(3, 2, "up")]), [0, 1])
        self.assertEqual(layers_on(layers, held + [(3, 2, "up"), (4, 3, "down")]), [0])

    def test_two_keys_that_are_bound_to_one_layer(self):
        layers = [[("layer", 1), ("layer", 1), ("code", "a")], ["through", "through", ("code", "b")]]
        record = [(0, 0, "down"), (1, 1, "down"), (2, 0, "up"), (3, 2, "down"), (4, 1, "up"),
                  (5, 2, "up"), (6, 2, "down")]
        self.assertEqual(letters(layers, record), ". . . +b . -b +a")
        self.assertEqual(
            [layers_on(layers, record[:many]) for many in range(6)],
            [[0], [0, 1], [0, 1], [0, 1], [0, 1], [0]],
        )

    def test_a_layer_is_on_as_long_as_its_key_is_down(self):
        layers = [[("layer", 1), ("code", "a")], [("layer", 2), ("code", "b")], ["none", ("code", "c")]]
        self.assertEqual(letters(layers, [(0, 0, "down"), (0, 1, "down"), (0, 0, "up"), (0, 1, "up"),
                                          (0, 1, "down")]), ". +b . -b +a")

    def test_a_release_is_that_of_its_press(self):
        layers = [[("layer", 1), ("code", "a"), ("lock", 1)], ["through", ("code", "b"), "through"]]
        into = [(0, 1, "down"), (1, 0, "down"), (2, 1, "up"), (3, 0, "up")]
        self.assertEqual(letters(layers, into), "+a . -a .")
        out_of = [(0, 0, "down"), (1, 1, "down"), (2, 0, "up"), (3, 1, "up")]
        self.assertEqual(letters(layers, out_of), ". +b . -b")
        locked = [(0, 1, "down"), (1, 2, "down"), (2, 1, "up"), (3, 1, "down"), (4, 2, "up"),
                  (5, 2, "down"), (6, 1, "up")]
        self.assertEqual(letters(layers, locked), "+a . -a +b . . -b")
        empty = [[("layer", 1), ("code", "a")], ["through", "none"]]
        self.assertEqual(letters(empty, into), "+a . -a .")
        self.assertEqual(letters(empty, out_of), ". . . .")

    def test_the_release_of_a_layer_key_is_that_of_its_press(self):
        layers = [[("layer", 1), ("lock", 2)], ["through", "through"], [("code", "c"), "through"]]
        record = [(0, 0, "down"), (1, 1, "down"), (2, 0, "up"), (3, 0, "down"), (4, 1, "up"),
                  (5, 1, "down"), (6, 0, "up")]
        self.assertEqual(letters(layers, record), ". . . +c . . -c")
        self.assertEqual(
            [layers_on(layers, record[:many]) for many in (2, 3, 4, 6)],
            [[0, 1, 2], [0, 2], [0, 2], [0]],
        )

    def test_a_hold_of_a_dual_is_bound_like_a_layer_key(self):
        layers = [[("dual", "a", ("layer", 2), 3, "time"), ("code", "x")],
                  ["through", ("code", "y")], ["through", ("code", "z")]]
        self.assertEqual(layers_on(layers, [(0, 0, "down")]), [0, 2])
        self.assertEqual(layers_on(layers, [(0, 0, "down"), (3, 0, "up")]), [0])
        self.assertEqual(layers_on(layers, [(0, 0, "down"), (2, 0, "up")]), [0])
        self.assertEqual(letters(layers, [(0, 0, "down"), (0, 1, "down"), (3, 0, "up")]), ". +z .")
        self.assertEqual(letters(layers, [(0, 0, "down"), (0, 1, "down"), (2, 0, "up")]), "+a +x -a")


class TestCodes(unittest.TestCase):
    LAYOUT = [[("code", "a"), ("code", "a"), ("dual", "b", ("code", "a"), 3, "time"), ("code", "0")]]

    def test_a_code_that_is_down_several_times(self):
        record = [(0, 0, "down"), (1, 2, "down"), (2, 1, "down"), (4, 0, "up"), (5, 2, "up"),
                  (6, 1, "up")]
        self.assertEqual(letters(self.LAYOUT, record), "+a +a +a -a -a -a")
        self.assertEqual(
            [codes_down(self.LAYOUT, record[:many]) for many in range(7)],
            [[], ["a"], ["a"], ["a"], ["a"], ["a"], []],
        )

    def test_codes_are_ascending_and_stand_once(self):
        record = [(0, 0, "down"), (0, 1, "down"), (0, 2, "down"), (0, 2, "up"), (0, 2, "down"),
                  (0, 3, "down"), (1, 2, "up")]
        self.assertEqual(codes_down(self.LAYOUT, record), ["0", "a"])
        self.assertEqual(codes_down(self.LAYOUT, record[:5]), ["a"])
        order = [[("code", code) for code in ("b", "ab", "a", "9", "abc", "z", "10")]]
        downs = [(0, key, "down") for key in range(7)]
        self.assertEqual(codes_down(order, downs), ["10", "9", "a", "ab", "abc", "b", "z"])


class TestSizes(unittest.TestCase):
    def test_empty_records(self):
        for layout in (LAYOUT, [["none"]], [[("dual", "a", ("code", "b"), 1, "other")]]):
            self.assertEqual(
                [call(layout, []) for call in (played, flat, meanings, sure_by, codes_down)], [[]] * 5
            )
            self.assertEqual(layers_on(layout, []), [0])

    def test_ticks_below_0_and_great_gaps(self):
        layout = duals_of("time")
        record = [(-FAR, 0, "down"), (4 - FAR, 0, "up"), (-3, 0, "down"), (1, 0, "up"),
                  (2, 0, "down"), (2 + 10 ** 10, 0, "up"), (FAR, 0, "down"), (FAR + 5, 0, "up")]
        self.assertEqual(letters(layout, record), "+a -a +a -a +b -b +b -b")
        self.assertEqual(sure_by(layout, record), [1, None, 3] + [None] * 5)

    def test_records_of_200_and_400_events(self):
        for many in (200, 400):
            record = [(3 * at, 0, "up" if at % 2 else "down") for at in range(many)]
            self.assertEqual(flat([[("dual", "a", ("code", "b"), 4, "time")]], record),
                             [("press", "a"), ("release", "a")] * (many // 2))
            self.assertEqual(kinds([[("dual", "a", ("code", "b"), 3, "time")]], record),
                             ["hold"] * (many // 2))

    def test_a_layout_with_16_keys_and_6_layers(self):
        layout = [[("layer", layer + 1) for layer in range(5)] + [("code", "a")] * 11] + [
            ["through"] * 15 + [("code", "b" + str(layer))] for layer in range(5)
        ]
        downs = [(key, key, "down") for key in range(16)]
        self.assertEqual(layers_on(layout, downs), [0, 1, 2, 3, 4, 5])
        self.assertEqual(meanings(layout, downs)[-1], (5, "plain", ("code", "b4")))
        self.assertEqual(meanings(layout, downs)[-2], (0, "plain", ("code", "a")))

    def test_one_key_and_no_dual(self):
        self.assertEqual(played([["none"]], taps([0, 0])), [()] * 4)
        self.assertEqual(meanings([["none"]], taps([0])), [(0, "plain", "none"), None])
        self.assertEqual(sure_by([[("code", "x")]], taps([0])), [None, None])

    def test_each_plain_action_as_it_is(self):
        actions = ["none", ("code", "x"), ("layer", 1), ("lock", 2), ("once", 2)]
        layout = [actions, ["through"] * 5, ["through"] * 5]
        self.assertEqual(
            meanings(layout, [(0, key, "down") for key in range(5)]),
            [(0, "plain", action) for action in actions],
        )


class TestAgainstTheModel(unittest.TestCase):
    def test_many_plays(self):
        for layout, record in models.some_plays(20, 1500):
            with self.subTest(layout=layout, record=record):
                result = models.played(layout, record)
                self.assertEqual(played(layout, record), result)
                self.assertEqual(flat(layout, record), [output for output in result if output])
                self.assertEqual(meanings(layout, record), models.meanings(layout, record))
                self.assertEqual(layers_on(layout, record), models.layers_on(layout, record))
                self.assertEqual(codes_down(layout, record), models.codes_down(layout, record))

    def test_sure_events(self):
        for layout, record in models.some_plays(21, 1500):
            expected = [None] * len(record)
            for at, meaning in enumerate(models.meanings(layout, record)):
                if meaning and meaning[1] != "plain":
                    word, tap, hold, time, rule = layout[meaning[0]][record[at][1]]
                    decider = models.deciding(record, at, rule)
                    if decider is not None and record[decider][0] < record[at][0] + time:
                        expected[at] = decider
            self.assertEqual(sure_by(layout, record), expected)

    def test_nothing_sticks_and_releases_belong_to_presses(self):
        for layout, record in models.some_plays(22, 1500):
            closed = ended(record)
            self.assertTrue(is_whole(closed))
            self.assertEqual(codes_down(layout, closed), [])
            result, down = played(layout, closed), {}
            for (tick, key, way), output in zip(closed, result):
                if way == "down":
                    down[key] = ("release", output[1]) if output else ()
                else:
                    self.assertEqual(output, down[key])
            self.assertEqual(result[:len(record)], played(layout, record))

    def test_waiting_changes_only_ticks(self):
        for layout, record in models.some_plays(23, 1500):
            self.assertEqual([output[1:] for output in outputs(layout, record)], flat(layout, record))


if __name__ == "__main__":
    unittest.main()
