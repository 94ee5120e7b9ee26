import random
import unittest

from holdtap.playing import flat, played
from holdtap.records import ended, is_record, is_whole
from holdtap.typed import is_typed, typed
from tests import models
from tests.any_values import OTHER_KINDS, EqualToAll
from tests.samples import NO_LAYOUTS, dual, error_of, events
from tests.small_models import some_small_layout, whole_records

QUICK = [[("dual", "a", ("layer", 1), 3, "time"), ("code", "x")], ["through", ("code", "1")]]
ROLLED = [(0, 1, "down"), (1, 0, "down"), (2, 0, "up"), (3, 1, "up")]
SIZES = [(1, 2, 4, 6), (2, 2, 4, 4), (2, 2, 2, 6), (3, 2, 2, 4), (2, 3, 2, 6), (3, 3, 1, 4)]


def presses(layout, record):
    """The codes that are pressed, and whether each one is released ahead of the next press."""
    codes, down, alone = [], 0, True
    for output in models.played(layout, record):
        if output and output[0] == "press":
            alone = alone and down == 0
            codes.append(output[1])
            down += 1
        elif output:
            down -= 1
    return codes, alone


class TestTyped(unittest.TestCase):
    def check(self, layout, codes, many, alone=False):
        """The codes are typed by a right record of so many events; None if they are not."""
        with self.subTest(layout=layout, codes=codes, alone=alone):
            found = typed(layout, codes, alone=alone)
            if many is None:
                self.assertIsNone(found)
                return
            self.assertIs(type(found), list)
            self.assertTrue(is_record(found) and is_whole(found))
            self.assertEqual(len(found), many)
            told, apart = presses(layout, found)
            self.assertEqual(told, codes)
            self.assertTrue(apart or not alone)
            self.assertTrue(all(abs(tick) <= 10 ** 15 for tick, key, way in found))
            self.assertIs(is_typed(layout, codes, found, alone=alone), True)

    def test_the_example(self):
        found = [typed(QUICK, codes) for codes in [[], ["x"], ["1"], ["a", "1"]]]
        self.assertEqual([len(record) for record in found], [0, 2, 4, 6])
        self.assertIsNone(typed(QUICK, ["z"]))

    def test_no_code(self):
        for layout in (QUICK, [["none"]], [[("code", "x")]]):
            for alone in (False, True):
                self.assertEqual(typed(layout, [], alone=alone), [])

    def test_one_to_five_codes(self):
        layout = [[("code", "x"), ("code", "y"), ("layer", 1)], ["through", ("code", "1"), "none"]]
        for alone in (False, True):
            self.check(layout, ["x"], 2, alone)
            self.check(layout, ["1"], 4, alone)
            self.check(layout, ["1", "1"], 6, alone)
            self.check(layout, ["1", "y", "1"], 10, alone)
            self.check(layout, ["x", "y", "x", "y"], 8, alone)
            self.check(layout, ["x", "1", "x", "1", "x"], 12, alone)

    def test_codes_that_no_action_has(self):
        for codes in (["z"], ["x", "z"], ["z", "x"], ["x", "x", "x", "x", "z"], ["aa"], ["abcdefg9"]):
            self.check(QUICK, codes, None)
            self.check(QUICK, codes, None, True)

    def test_codes_that_cannot_be_reached(self):
        layout = [[("code", "x"), "none"], [("code", "y"), "none"]]
        self.check(layout, ["y"], None)
        self.check([[("layer", 1)], [("code", "y")]], ["y"], None)
        self.check([[("once", 1)], [("code", "y")]], ["y"], 4)
        self.check([[("lock", 1)], [("code", "y")]], ["y", "y"], 6)

    def test_codes_only_behind_a_dual(self):
        for rule in models.RULES:
            for time in (1, 4):
                layout = [[dual(time, rule, "a", ("code", "b")), dual(time, rule, "c", ("layer", 1))],
                          [("code", "x"), "through"]]
                self.check(layout, ["a"], 2)
                self.check(layout, ["b"], 2)
                self.check(layout, ["x"], 4)
                self.check(layout, ["c", "a", "b", "x"], 10)
                self.check(layout, ["c", "a", "b", "x"], 10, True)

    def test_codes_only_behind_a_lock_or_once(self):
        lock = [[("lock", 1), ("code", "x")], [("lock", 2), ("code", "y")], ["through", ("code", "z")]]
        self.check(lock, ["x", "y", "z"], 10)
        self.check(lock, ["y", "x"], None)
        self.check(lock, ["y", "y", "z", "z", "z"], 14)
        once = [[("once", 1), ("code", "x")], [("once", 2), ("code", "y")], ["through", ("code", "z")]]
        self.check(once, ["x", "y", "z"], 12)
        self.check(once, ["y", "x"], 6)

    def test_codes_that_have_to_overlap(self):
        layout = [[dual(4, "other", "a", ("layer", 1)), ("code", "x")], [("code", "z"), "none"]]
        self.check(layout, ["x", "a"], 4)
        self.check(layout, ["x", "a"], 4, True)
        held = [[("code", "x"), dual(4, "time", "b", ("layer", 1))], ["none", "through"]]
        self.check(held, ["x", "b"], 4, True)
        self.check(held, ["x", "x"], 4, True)
        same = [[("code", "x"), ("code", "x")]]
        self.check(same, ["x", "x", "x"], 6)
        self.check(same, ["x", "x", "x"], 6, True)

    def test_alone_never_takes_fewer_events(self):
        chance = random.Random(701)
        for _ in range(200):
            layout = some_small_layout(chance, 2, 2)
            codes = [chance.choice(models.CODES) for _ in range(3)]
            free, apart = typed(layout, codes), typed(layout, codes, alone=True)
            if apart is not None:
                self.assertLessEqual(len(free), len(apart))
                self.assertIs(is_typed(layout, codes, apart), True)

    def test_against_all_short_records(self):
        chance = random.Random(702)
        longer = 0
        for at in range(48):
            keys, layers, times, most = SIZES[at % len(SIZES)]
            layout = some_small_layout(chance, keys, layers, times)
            least = {}
            for many in range(0, most + 1, 2):
                for record in whole_records(keys, many, times):
                    codes, apart = self.fast_presses(layout, record)
                    least.setdefault((codes, False), many)
                    if apart:
                        least.setdefault((codes, True), many)
            for (codes, alone), many in least.items():
                if len(codes) <= 5:
                    self.check(layout, list(codes), many, alone)
            for _ in range(10):
                codes = tuple(chance.choice(models.CODES) for _ in range(chance.randint(0, 5)))
                for alone in (False, True):
                    if (codes, alone) not in least:
                        found = typed(layout, list(codes), alone=alone)
                        if found is not None:
                            longer += 1
                            self.assertGreater(len(found), most)
                            self.check(layout, list(codes), len(found), alone)
        self.assertGreater(longer, 20)

    def fast_presses(self, layout, record):
        words = [output for output in played(layout, record) if output]
        codes = tuple(code for word, code in words if word == "press")
        return codes, all(
            one[0] == "release" or two[0] == "release" for one, two in zip(words, words[1:])
        )


class TestIsTyped(unittest.TestCase):
    def test_the_example(self):
        self.assertIs(is_typed(QUICK, ["x", "a"], ROLLED), True)
        self.assertIs(is_typed(QUICK, ["x", "a"], ROLLED, alone=True), False)

    def test_records_with_more_events_than_needed(self):
        record = events("0+0 0-3 1+4 1-5 0+6 0-9")
        self.assertIs(is_typed(QUICK, ["x"], record), True)
        self.assertIs(is_typed(QUICK, ["x"], record, alone=True), True)
        self.assertIs(is_typed(QUICK, [], events("0+0 0-9")), True)
        self.assertIs(is_typed(QUICK, [], []), True)

    def test_records_that_are_not_whole(self):
        for text, codes in (("1+0", ["x"]), ("0+0 0-1 1+2", ["a", "x"]), ("0+0", []), ("1+0 0+1 1-1", ["x"])):
            self.assertIs(is_typed(QUICK, codes, events(text)), False)
            self.assertIs(is_typed(QUICK, codes, ended(events(text))), True)

    def test_another_code_another_order_or_another_number(self):
        record = events("1+0 1-1 0+2 0-3")
        for codes, expected in (
            (["x", "a"], True), (["a", "x"], False), (["x"], False), (["x", "a", "a"], False), (["x", "1"], False),
            ([], False), (["x", "x"], False),
        ):
            for alone in (False, True):
                self.assertIs(is_typed(QUICK, codes, record, alone=alone), expected)

    def test_a_code_that_is_held_while_the_next_is_pressed(self):
        layout = [[("code", "x"), ("code", "y"), ("code", "z")]]
        for text, alone in (
            ("0+0 0-1 1+2 1-3", True), ("0+0 0-1 1+1 1-1", True), ("0+0 1+0 0-0 1-0", False),
            ("0+0 1+1 1-2 0-3", False),
        ):
            self.assertIs(is_typed(layout, ["x", "y"], events(text)), True)
            self.assertIs(is_typed(layout, ["x", "y"], events(text), alone=True), alone)
        record = events("0+0 0-1 1+2 2+3 1-4 2-5")
        self.assertIs(is_typed(layout, ["x", "y", "z"], record), True)
        self.assertIs(is_typed(layout, ["x", "y", "z"], record, alone=True), False)

    def test_one_code_by_two_keys(self):
        layout = [[("code", "x"), ("code", "x")]]
        self.assertIs(is_typed(layout, ["x", "x"], events("0+0 1+1 0-2 1-3")), True)
        self.assertIs(is_typed(layout, ["x", "x"], events("0+0 1+1 0-2 1-3"), alone=True), False)
        self.assertIs(is_typed(layout, ["x", "x"], events("0+0 0-1 1+2 1-3"), alone=True), True)

    def test_any_value(self):
        itself = []
        itself.append(itself)
        for value in OTHER_KINDS + [
            itself, tuple(ROLLED), [list(event) for event in ROLLED], ROLLED[:3], ROLLED[::-1], [None] * 500, [None],
            [(0, 2, "down"), (1, 2, "up")], ROLLED + [(4, 2, "down"), (5, 2, "up")], ROLLED[:3] + [(True, 1, "up")],
            ROLLED[:3] + [(1, 1, "up")], ROLLED + [(4, 1, "up")], [EqualToAll()] * 4, "1+0 0+1 0-2 1-3",
            ROLLED + [(5, 0, "up" if at % 2 else "down") for at in range(400)],
        ]:
            with self.subTest(value=value):
                for alone in (False, True):
                    self.assertIs(is_typed(QUICK, ["x", "a"], value, alone=alone), False)
                    self.assertIs(is_typed(QUICK, [], value, alone=alone), False)

    def test_against_its_words(self):
        chance = random.Random(711)
        found = {True: 0, False: 0}
        for _ in range(300):
            layout = some_small_layout(chance, 3, 3)
            record = models.some_record(chance, 3, chance.randint(0, 8))
            for value in (record, ended(record)):
                told, apart = presses(layout, value)
                if len(told) > 5:
                    continue
                whole = is_whole(value)
                self.assertIs(is_typed(layout, told, value), whole)
                self.assertIs(is_typed(layout, told, value, alone=True), whole and apart)
                self.assertIs(is_typed(layout, told[1:] + ["z"], value), False)
                self.assertEqual(told, [code for word, code in flat(layout, value) if word == "press"])
                found[whole and apart] += 1
        self.assertGreater(min(found.values()), 50)


class TestErrors(unittest.TestCase):
    LARGE = [
        ([["none"] * 4], 3), ([[dual(4)] * 3], 2), ([["none"] * 3] * 4, 3), ([[dual(5)]], 4),
        ([[dual(5)] * 4] * 4, 3), ([[dual(5)] * 3] * 4, 2), ([[dual(5)]] * 4, 3),
    ]

    def check(self, error, layout, codes):
        for call in (typed, lambda *args, **more: is_typed(*args, ROLLED, **more)):
            for alone in (False, True):
                found = error_of(call, layout, codes, alone=alone)
                self.assertEqual(found if len(error) > 1 else found[:1], error)

    def test_layouts_then_their_size(self):
        for layout, fields in NO_LAYOUTS:
            for codes in (["x"], None):
                self.check(("InvalidLayout",) + fields, layout, codes)
        for layout, limit in self.LARGE:
            for codes in (["x"], None, ["x"] * 6):
                self.check(("TooLarge", limit), layout, codes)

    def test_codes(self):
        for codes in OTHER_KINDS + [
            ("x",), ["x"] * 6, ["x"] * 500, [""], ["A"], ["x y"], ["abcdefghi"], ["x", None], [("code", "x")], [1],
            [b"x"], [EqualToAll()], ["x", "-"], ["x", True], [["x"]], {"x": 1},
        ]:
            with self.subTest(codes=codes):
                self.check(("InvalidCodes",), QUICK, codes)
        for codes in ([], ["x"] * 5, ["abcdefgh"], ["0"], ["z9"]):
            self.assertIsNone(error_of(typed, QUICK, codes))
            self.assertIsNone(error_of(is_typed, QUICK, codes, None))

    def test_alone_is_passed_by_name(self):
        with self.assertRaises(TypeError):
            typed(QUICK, ["x"], True)
        with self.assertRaises(TypeError):
            is_typed(QUICK, ["x"], ROLLED, True)


if __name__ == "__main__":
    unittest.main()
