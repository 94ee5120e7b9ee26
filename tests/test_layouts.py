import unittest

from holdtap.errors import InvalidLayout, InvalidPlace
from holdtap.layouts import duals, greatest_time, is_layout, key_count, with_action
from tests.any_values import OTHER_KINDS, EqualToAll

DUAL = ("dual", "a", ("layer", 1), 5, "time")
LAYOUT = [[DUAL, ("code", "x"), ("once", 1)], ["through", ("code", "1"), "through"]]

STANDS_ANYWHERE = [
    "none",
    ("code", "a"), ("code", "0"), ("code", "abcdefgh"), ("code", "a1b2c3d4"), ("code", "none"),
    ("layer", 1), ("layer", 2), ("lock", 1), ("lock", 2), ("once", 1), ("once", 2),
    ("dual", "a", ("code", "b"), 1, "time"),
    ("dual", "abcdefgh", ("code", "abcdefgh"), 10 ** 9, "other"),
    ("dual", "a", ("layer", 2), 7, "within"),
]
STANDS_NOWHERE = [
    "", "None", "nothing", "code", "through ", "x", "dual",
    ["none"], ("none",), ("through",), ["code", "a"], ["layer", 1],
    ["dual", "a", ("code", "b"), 5, "time"],
    ("code",), ("code", "a", "b"), ("code", ""), ("code", "abcdefghi"), ("code", "A"),
    ("code", "a b"), ("code", "-"), ("code", "a\n"), ("code", "a_"), ("code", 1),
    ("code", None), ("code", ("a",)), ("code", ["a"]), ("code", b"a"), ("code", True),
    ("Code", "a"), ("", "a"), (None, "a"), (1, "a"), (b"code", "a"), (["code"], "a"),
    ("layer",), ("layer", 1, 1), ("layer", 0), ("layer", 3), ("layer", -1), ("layer", True),
    ("layer", False), ("layer", "1"), ("layer", 1.0), ("layer", None), ("layer", [1]),
    ("lock",), ("lock", 0), ("lock", 3), ("lock", True), ("lock", 1, 2),
    ("once",), ("once", 0), ("once", 3), ("once", True), ("once", 1, 2),
    ("through", 1), ("none", "a"), ("hold", 1),
    ("dual",), ("dual", "a"), ("dual", "a", ("code", "b"), 5),
    ("dual", "a", ("code", "b"), 5, "time", "time"),
    ("code", "a", ("code", "b"), 5, "time"), (None, "a", ("code", "b"), 5, "time"),
    ("dual", "", ("code", "b"), 5, "time"), ("dual", "abcdefghi", ("code", "b"), 5, "time"),
    ("dual", "A", ("code", "b"), 5, "time"), ("dual", ("code", "a"), ("code", "b"), 5, "time"),
    ("dual", 1, ("code", "b"), 5, "time"), ("dual", None, ("code", "b"), 5, "time"),
    ("dual", "a", "b", 5, "time"), ("dual", "a", "none", 5, "time"),
    ("dual", "a", "through", 5, "time"), ("dual", "a", "xy", 5, "time"),
    ("dual", "a", None, 5, "time"),
    ("dual", "a", (), 5, "time"), ("dual", "a", ("code",), 5, "time"),
    ("dual", "a", ("code", "b", "c"), 5, "time"), ("dual", "a", ["code", "b"], 5, "time"),
    ("dual", "a", ["layer", 1], 5, "time"), ("dual", "a", ("code", "B"), 5, "time"),
    ("dual", "a", ("layer", 0), 5, "time"), ("dual", "a", ("layer", 3), 5, "time"),
    ("dual", "a", ("layer", True), 5, "time"), ("dual", "a", ("lock", 1), 5, "time"),
    ("dual", "a", ("once", 1), 5, "time"),
    ("dual", "a", ("dual", "a", ("code", "b"), 5, "time"), 5, "time"),
    ("dual", "a", ("code", "b"), 0, "time"), ("dual", "a", ("code", "b"), -1, "time"),
    ("dual", "a", ("code", "b"), 10 ** 9 + 1, "time"), ("dual", "a", ("code", "b"), True, "time"),
    ("dual", "a", ("code", "b"), 5.0, "time"), ("dual", "a", ("code", "b"), "5", "time"),
    ("dual", "a", ("code", "b"), None, "time"),
    ("dual", "a", ("code", "b"), 5, "t"), ("dual", "a", ("code", "b"), 5, "Time"),
    ("dual", "a", ("code", "b"), 5, ""), ("dual", "a", ("code", "b"), 5, None),
    ("dual", "a", ("code", "b"), 5, ("time",)), ("dual", "a", ("code", "b"), 5, ["time"]),
    (EqualToAll(), "a"), (EqualToAll(), 1), ("code", EqualToAll()), ("layer", EqualToAll()),
    (EqualToAll(), "a", ("code", "b"), 5, "time"), ("dual", "a", EqualToAll(), 5, "time"),
    ("dual", "a", (EqualToAll(), "b"), 5, "time"), ("dual", "a", ("code", "b"), 5, EqualToAll()),
    ("dual", "a", ("code", "b"), EqualToAll(), "time"),
    [], {}, {"none": 1}, {"none"},
] + [value for value in OTHER_KINDS if value != "none" or isinstance(value, EqualToAll)]

NO_FORM = OTHER_KINDS + [
    [], [[]], [[], []], [["none"]] * 7, [["none"] * 17], [["none"], []], [[], ["none"]],
    [["none"], ["none", "none"]], [["none", "none"], ["none"]], [["none"], "none"],
    [["none"], None], ["none"], [("none",)], (["none"],), [["none"], ("none",)],
    [{0: "none"}], [["none"], 5], [EqualToAll()], {0: ["none"]}, [["bad"] * 17], [["bad"]] * 7,
    [["bad"], ["none", "none"]],
]


def three_layers(layer, action):
    """A layout of three layers with two keys that has the action at key 1 of the layer."""
    layout = [["none", "none"], ["through", "none"], ["none", "through"]]
    layout[layer][1] = action
    return layout


class LayoutCase(unittest.TestCase):
    def assert_invalid(self, layer, key, call, *args):
        with self.assertRaises(InvalidLayout) as caught:
            call(*args)
        self.assertEqual((caught.exception.layer, caught.exception.key), (layer, key))
        self.assertNotIsInstance(caught.exception.layer, bool)
        self.assertNotIsInstance(caught.exception.key, bool)


class TestIsLayout(LayoutCase):
    def test_the_example(self):
        values = [
            is_layout(LAYOUT), is_layout([]), is_layout([["through"]]), key_count(LAYOUT),
            duals(LAYOUT), greatest_time(LAYOUT), duals([["none"]]),
        ]
        self.assertEqual(values, [True, False, False, 3, [(0, 0)], 5, []])

    def test_actions_that_stand_in_each_layer(self):
        for action in STANDS_ANYWHERE:
            for layer in range(3):
                with self.subTest(action=action, layer=layer):
                    self.assertIs(is_layout(three_layers(layer, action)), True)
                    self.assertEqual(key_count(three_layers(layer, action)), 2)

    def test_actions_that_stand_nowhere(self):
        for action in STANDS_NOWHERE:
            for layer in range(3):
                with self.subTest(action=action, layer=layer):
                    layout = three_layers(layer, action)
                    self.assertIs(is_layout(layout), False)
                    self.assert_invalid(layer, 1, key_count, layout)

    def test_through_stands_in_each_layer_but_the_first(self):
        self.assertIs(is_layout(three_layers(0, "through")), False)
        self.assert_invalid(0, 1, key_count, three_layers(0, "through"))
        self.assertIs(is_layout(three_layers(1, "through")), True)
        self.assertIs(is_layout(three_layers(2, "through")), True)

    def test_layer_numbers_from_both_sides(self):
        for many in range(1, 7):
            for word in ("layer", "lock", "once"):
                for number in range(-1, 8):
                    with self.subTest(many=many, word=word, number=number):
                        layout = [[(word, number)]] + [["none"] for _ in range(many - 1)]
                        self.assertIs(is_layout(layout), 1 <= number < many)
                        layout[0][0] = ("dual", "a", (word, number), 5, "time")
                        valid = word == "layer" and 1 <= number < many
                        self.assertIs(is_layout(layout), valid)

    def test_a_layer_can_name_itself(self):
        self.assertIs(is_layout([["none"], [("layer", 1)]]), True)

    def test_every_sign_of_a_code(self):
        signs = "abcdefghijklmnopqrstuvwxyz0123456789"
        for number in range(32, 127):
            with self.subTest(sign=chr(number)):
                self.assertIs(is_layout([[("code", chr(number))]]), chr(number) in signs)
                self.assertIs(is_layout([[("code", "a" + chr(number))]]), chr(number) in signs)
        for sign in ("\u00e9", "\u00b2", "\u0663", "\u00df"):
            self.assertIs(is_layout([[("code", sign)]]), False)

    def test_lengths_of_codes(self):
        for many in range(12):
            with self.subTest(many=many):
                valid = 1 <= many <= 8
                self.assertIs(is_layout([[("code", "z" * many)]]), valid)
                tap = ("dual", "z" * many, ("code", "a"), 5, "time")
                hold = ("dual", "a", ("code", "9" * many), 5, "time")
                self.assertIs(is_layout([[tap]]), valid)
                self.assertIs(is_layout([[hold]]), valid)

    def test_times_from_both_sides(self):
        for time in (-1, 0, 1, 2, 10 ** 9 - 1, 10 ** 9, 10 ** 9 + 1, 10 ** 30):
            for rule in ("time", "other", "within"):
                with self.subTest(time=time, rule=rule):
                    layout = [[("dual", "a", ("code", "b"), time, rule)]]
                    self.assertIs(is_layout(layout), 1 <= time <= 10 ** 9)

    def test_numbers_of_layers_and_keys(self):
        for layers in range(9):
            for keys in range(19):
                with self.subTest(layers=layers, keys=keys):
                    layout = [["none"] * keys for _ in range(layers)]
                    valid = 1 <= layers <= 6 and 1 <= keys <= 16
                    self.assertIs(is_layout(layout), valid)
                    if valid:
                        self.assertEqual(key_count(layout), keys)
                    else:
                        self.assert_invalid(None, None, key_count, layout)

    def test_lists_far_beyond_the_limits(self):
        self.assertIs(is_layout([["none"]] * 500), False)
        self.assertIs(is_layout([["none"] * 500]), False)

    def test_a_list_that_holds_itself(self):
        layout = []
        layout.append(layout)
        self.assertIs(is_layout(layout), False)
        self.assert_invalid(0, 0, key_count, layout)

    def test_values_without_the_form(self):
        for value in NO_FORM:
            with self.subTest(value=value):
                self.assertIs(is_layout(value), False)


class TestInvalidLayout(LayoutCase):
    def test_every_function_refuses_values_without_the_form(self):
        for value in NO_FORM:
            with self.subTest(value=value):
                self.assert_invalid(None, None, key_count, value)
                self.assert_invalid(None, None, duals, value)
                self.assert_invalid(None, None, greatest_time, value)
                self.assert_invalid(None, None, with_action, value, 0, 0, "none")

    def test_the_first_wrong_place_layer_by_layer(self):
        layout = [["none", "none", "none"], ["none", "bad", None], ["bad", "none", "none"]]
        for call in (key_count, duals, greatest_time):
            with self.subTest(call=call):
                self.assert_invalid(1, 1, call, layout)
        self.assert_invalid(1, 1, with_action, layout, 0, 0, "none")
        layout[0][2] = "through"
        self.assert_invalid(0, 2, key_count, layout)

    def test_lists_of_unequal_length_come_ahead_of_wrong_actions(self):
        self.assert_invalid(None, None, duals, [["through", "none"], ["none"]])

    def test_the_last_place(self):
        layout = [["none"] * 16 for _ in range(6)]
        layout[5][15] = ("layer", 6)
        self.assert_invalid(5, 15, key_count, layout)
        layout[5][15] = ("layer", 5)
        self.assertEqual(key_count(layout), 16)


class TestDuals(LayoutCase):
    def test_places_ascend(self):
        def dual(time):
            return ("dual", "a", ("code", "b"), time, "other")

        layout = [["none", dual(4), dual(9)], [dual(7), "through", ("layer", 1)], ["none"] * 3]
        self.assertEqual(duals(layout), [(0, 1), (0, 2), (1, 0)])
        self.assertEqual(greatest_time(layout), 9)

    def test_the_greatest_time_can_stand_anywhere(self):
        def layout(*times):
            return [[("dual", "a", ("code", "b"), time, "within")] for time in times]

        self.assertEqual(greatest_time(layout(1, 10 ** 9, 3)), 10 ** 9)
        self.assertEqual(greatest_time(layout(4, 2, 5)), 5)
        self.assertEqual(greatest_time(layout(1)), 1)
        self.assertEqual(duals(layout(4, 2, 5)), [(0, 0), (1, 0), (2, 0)])

    def test_without_a_dual(self):
        layout = [["none", ("code", "dual"), ("lock", 1)], ["through", ("once", 1), "none"]]
        self.assertEqual(duals(layout), [])
        self.assertEqual(greatest_time(layout), 0)

    def test_all_places(self):
        layout = [[DUAL] * 16 for _ in range(6)]
        places = [(layer, key) for layer in range(6) for key in range(16)]
        self.assertEqual(duals(layout), places)


class TestWithAction(LayoutCase):
    def test_the_examples(self):
        self.assertEqual(with_action(LAYOUT, 1, 2, "none")[1], ["through", ("code", "1"), "none"])
        self.assert_invalid(0, 1, with_action, LAYOUT, 0, 1, ("layer", 2))

    def test_only_the_place_changes(self):
        for layer in range(2):
            for key in range(3):
                with self.subTest(layer=layer, key=key):
                    expected = [list(actions) for actions in LAYOUT]
                    expected[layer][key] = ("lock", 1)
                    self.assertEqual(with_action(LAYOUT, layer, key, ("lock", 1)), expected)

    def test_every_action_that_can_stand(self):
        for action in STANDS_ANYWHERE:
            for layer in range(3):
                with self.subTest(action=action, layer=layer):
                    changed = with_action(three_layers(0, "none"), layer, 0, action)
                    self.assertEqual(changed[layer][0], action)

    def test_every_action_that_cannot_stand(self):
        for action in STANDS_NOWHERE:
            for layer in range(3):
                with self.subTest(action=action, layer=layer):
                    layout = three_layers(0, "none")
                    self.assert_invalid(layer, 0, with_action, layout, layer, 0, action)
                    self.assertEqual(layout, three_layers(0, "none"))

    def test_through(self):
        self.assert_invalid(0, 2, with_action, LAYOUT, 0, 2, "through")
        self.assertEqual(with_action(LAYOUT, 1, 1, "through")[1], ["through"] * 3)

    def test_places_that_the_layout_does_not_have(self):
        for layer in (-1, 2, 10 ** 30, -10 ** 5000, "0", 0.0, [0], (0,)) + tuple(OTHER_KINDS):
            if layer in (0, 1) and layer.__class__ is int:
                continue
            with self.subTest(layer=repr(layer)[:20] if layer.__class__ is not int else "int"):
                with self.assertRaises(InvalidPlace):
                    with_action(LAYOUT, layer, 0, "none")
        for key in (-1, 3, 10 ** 30, 10 ** 5000, "0", 0.0, [0], (0,)) + tuple(OTHER_KINDS):
            if key in (0, 1) and key.__class__ is int:
                continue
            with self.subTest(key=repr(key)[:20] if key.__class__ is not int else "int"):
                with self.assertRaises(InvalidPlace):
                    with_action(LAYOUT, 0, key, "none")

    def test_the_last_place(self):
        changed = with_action(LAYOUT, 1, 2, ("code", "z"))
        self.assertEqual(changed, [LAYOUT[0], ["through", ("code", "1"), ("code", "z")]])

    def test_the_sequence_of_the_errors(self):
        self.assert_invalid(None, None, with_action, [], 9, 9, "bad")
        self.assert_invalid(0, 0, with_action, [["bad"]], 9, 9, "bad")
        with self.assertRaises(InvalidPlace):
            with_action(LAYOUT, 2, 0, "bad")
        with self.assertRaises(InvalidPlace):
            with_action(LAYOUT, 0, 3, "bad")
        with self.assertRaisesRegex(InvalidPlace, "layer"):
            with_action(LAYOUT, 2, 3, "bad")
        with self.assertRaisesRegex(InvalidPlace, "key"):
            with_action(LAYOUT, 1, 3, "bad")


if __name__ == "__main__":
    unittest.main()
