import random
import unittest

from holdtap.playing import played
from holdtap.texts import format_layout, format_record, format_result, parse_layout, parse_record
from tests import models
from tests.any_values import OTHER_KINDS, EqualToAll
from tests.samples import LAYOUT, NO_LAYOUTS, RECORD, dual, error_of, events

NO_STRINGS = [value for value in OTHER_KINDS if not isinstance(value, str)] + [["x"], ("x",)]


class TestLayoutTexts(unittest.TestCase):
    def assert_both(self, text, layout):
        """What is written is read back, and what is read is written back."""
        with self.subTest(text=text):
            self.assertEqual(parse_layout(text), layout)
            self.assertEqual(format_layout(layout), text)

    def assert_fault(self, text, line, word):
        with self.subTest(text=text):
            self.assertEqual(error_of(parse_layout, text), ("InvalidText", line, word))

    def test_the_examples(self):
        self.assert_both("a/@1:5t x ^1\n- 1 -", LAYOUT)
        self.assert_both("a/b:9w .", [[("dual", "a", ("code", "b"), 9, "within"), "none"]])
        self.assert_fault("x\n@2", 1, 0)

    def test_each_action(self):
        self.assert_both(".", [["none"]])
        self.assert_both("x\n-", [[("code", "x")], ["through"]])
        self.assert_both("@1\n!1\n^1", [[("layer", 1)], [("lock", 1)], [("once", 1)]])
        self.assert_both("@2 !2 ^2\n- - -\n. . .", [
            [("layer", 2), ("lock", 2), ("once", 2)], ["through"] * 3, ["none"] * 3,
        ])
        self.assert_both(
            "\n".join(["^1", "@2", "!3", "@4", "^5", "!1"]),
            [[("once", 1)], [("layer", 2)], [("lock", 3)], [("layer", 4)], [("once", 5)], [("lock", 1)]],
        )

    def test_each_rule_and_both_holds(self):
        for sign, rule in (("t", "time"), ("o", "other"), ("w", "within")):
            self.assert_both(f"a/b:1{sign}", [[dual(1, rule)]])
            self.assert_both(f"0/z:1000000000{sign}", [[dual(10 ** 9, rule, "0", ("code", "z"))]])
            self.assert_both(f"a/@1:20{sign}\n-", [[dual(20, rule, "a", ("layer", 1))], ["through"]])

    def test_codes_of_1_8_and_9_signs(self):
        for code in ("a", "0", "z9", "00000000", "abcdefgh", "none", "t", "through", "5t"):
            self.assert_both(code, [[("code", code)]])
            self.assert_both(f"{code}/{code}:7o", [[dual(7, "other", code, ("code", code))]])
        for code in ("abcdefghi", "000000000", "A", "aB", "a_b", "a-b", "a.b", "..", "--", "a'", "x,"):
            self.assert_fault(code, 0, 0)
            self.assert_fault(f"{code}/a:5t", 0, 0)
            self.assert_fault(f"a/{code}:5t", 0, 0)

    def test_words_that_are_no_action(self):
        for word in (
            "@", "!", "^", "@a", "@-1", "@+1", "@1.", "@ 1", "@@1", "@1@", "1@", "!1!", "^^1", "@01", "@00", "@0", "!0",
            "^0", "@1x", "#1", "@2", "!2", "^9", "@10", "@" + "9" * 29, "@" + "9" * 30, "@" + "9" * 3000, "@" + "0" * 31,
        ):
            self.assert_fault(f"x {word} x\n- - -", 0, 1)
            self.assert_fault(f"x x x\n- {word} -", 1, 1)

    def test_words_that_are_no_dual(self):
        for word in (
            "/", "a/", "/b:5t", "a/:5t", "a/b", "a/b:", "a/b:5", "a/b:t", "a/b:5T", "a/b:5x", "a/b:5tt", "a/b:t5",
            "a/b:05t", "a/b:0t", "a/b:00t", "a/b:+5t", "a/b:-5t", "a/b:1000000001t", "a/b:" + "9" * 3000 + "t", "a/b5t",
            "a//b:5t", "a/b::5t", "a/b:5:t", "a/b/c:5t", "A/b:5t", "a/B:5t", "a/!1:5t", "a/^1:5t", "a/@2:5t", "a/@0:5t",
            "a/@01:5t", "a/@:5t", "a/.:5t", "a/-:5t", "./b:5t", "-/b:5t", "@1/b:5t", "a/b:5.0t", "a/b:5", "a:b/5t",
            "a/b:5o.", "a/b:to", "a/b:5ow", "a/b:",
        ):
            self.assert_fault(f"x {word} x\n- - -", 0, 1)

    def test_through_stands_in_no_first_line(self):
        self.assert_fault("-", 0, 0)
        self.assert_fault("x -\n- -", 0, 1)

    def test_16_and_17_words(self):
        self.assert_both(" ".join(["x"] * 16), [[("code", "x")] * 16])
        for words in (["x"] * 17, ["x"] * 16 + ["-"], ["x"] * 40, ["x"] * 16 + [""]):
            self.assert_fault(" ".join(words), 0, 16)
        self.assert_fault(" ".join(["x"] * 15 + ["?"] + ["x"] * 5), 0, 15)
        self.assert_fault(" ".join(["x"] * 17) + "\nx", 0, 16)

    def test_6_and_7_lines(self):
        self.assert_both("\n".join(["x"] * 6), [[("code", "x")]] * 6)
        for lines in (["x"] * 7, ["x"] * 6 + ["?"], ["x"] * 6 + [""], ["x"] * 6 + ["x x"], ["x"] * 9):
            self.assert_fault("\n".join(lines), 6, 0)
        self.assert_fault("\n".join(["x"] * 3 + ["?"] + ["x"] * 6), 3, 0)

    def test_layers_that_stand_for_lines_that_are_more_than_six(self):
        self.assert_fault("\n".join(["@6"] + ["x"] * 5), 0, 0)
        self.assert_fault("\n".join(["@6"] + ["x"] * 6), 6, 0)
        self.assert_fault("\n".join(["@7"] + ["x"] * 6), 0, 0)
        self.assert_fault("\n".join(["x", "a/@9:5t"] + ["x"] * 8), 6, 0)
        self.assert_fault("\n".join(["x", "a/@10:5t"] + ["x"] * 8), 1, 0)

    def test_lines_with_words_too_many_or_too_few(self):
        self.assert_fault("x y\n- - -", 1, 2)
        self.assert_fault("x y\n- - ?", 1, 2)
        self.assert_fault("x y\n-", 1, 1)
        self.assert_fault("x y\n- -\n- - -\n-", 2, 2)
        self.assert_fault("x y z\n- -\n- - - -", 1, 2)
        self.assert_fault("x y z\n?\n-", 1, 0)
        self.assert_fault("x\n" + " ".join(["-"] * 20), 1, 1)

    def test_the_first_fault_of_several(self):
        self.assert_fault("x ? ?\n? ?", 0, 1)
        self.assert_fault("x y\n- ?\n?", 1, 1)
        self.assert_fault("x y\n? - -", 1, 0)
        self.assert_fault("x y\n- - - ?\n-", 1, 2)

    def test_empty_lines_and_spaces(self):
        for text, line, word in (
            ("", 0, 0), (" ", 0, 0), ("\n", 0, 0), ("x\n", 1, 0), ("\nx", 0, 0), ("x\n\n-", 1, 0), (" x", 0, 0),
            ("x ", 0, 1), ("x  y", 0, 1), ("x y\n -", 1, 0), ("x y\n- ", 1, 1), ("x y\n- - ", 1, 2), ("x y\n-  -", 1, 1),
            ("x\n-\n", 2, 0), ("x\n ", 1, 0), ("x\t", 0, 0), ("x\ty", 0, 0), ("x\r\n-", 0, 0), ("x\n- \n-", 1, 1),
        ):
            self.assert_fault(text, line, word)

    def test_values_that_are_no_string(self):
        for value in NO_STRINGS:
            self.assert_fault(value, None, None)

    def test_values_that_are_no_layout(self):
        for layout, fields in NO_LAYOUTS:
            self.assertEqual(error_of(format_layout, layout), ("InvalidLayout",) + fields)

    def test_many_layouts(self):
        chance = random.Random(801)
        for _ in range(400):
            layout = models.some_layout(chance, most_keys=16, most_layers=6, times=10 ** 9)
            text = format_layout(layout)
            self.assert_both(text, layout)
            self.assertEqual(text.count("\n"), len(layout) - 1)

    def test_many_texts(self):
        chance = random.Random(802)
        right = 0
        signs = ["x", "y1", ".", "-", "@1", "!1", "^2", "a/b:5t", "a/@1:9w", "@3", "", "?", "a/b"]
        for _ in range(3000):
            lines = [
                " ".join(chance.choice(signs[:9] * 6 + signs) for _ in range(chance.choice([2, 2, 2, 3])))
                for _ in range(chance.randint(1, 4))
            ]
            text = "\n".join(lines)
            error = error_of(parse_layout, text)
            if error is None:
                right += 1
                self.assertEqual(format_layout(parse_layout(text)), text)
            else:
                self.assertEqual(error, ("InvalidText",) + self.first_fault(lines))
        self.assertGreater(right, 100)

    def first_fault(self, lines):
        """The first fault of lines of at most four words with codes and layers as above."""
        for line, row in enumerate(lines):
            words = row.split(" ")
            for at, word in enumerate(words):
                layer = [int(word[-1])] if word[:1] in ("@", "!", "^") else [1] if "@" in word else []
                if word in ("", "?", "a/b") or (word == "-" and line == 0):
                    return line, at
                if any(j >= len(lines) for j in layer) or at >= len(lines[0].split(" ")):
                    return line, at
            if len(words) < len(lines[0].split(" ")):
                return line, len(words)
        raise AssertionError(lines)


class TestRecordTexts(unittest.TestCase):
    def assert_both(self, text, record):
        with self.subTest(text=text):
            self.assertEqual(parse_record(text), record)
            self.assertEqual(format_record(record), text)

    def assert_fault(self, text, line, word):
        with self.subTest(text=text):
            self.assertEqual(error_of(parse_record, text), ("InvalidText", line, word))

    def test_the_examples(self):
        self.assert_both("0+0 1+1 1-2 0-4", RECORD)
        self.assert_both("0+-3 0-0", [(-3, 0, "down"), (0, 0, "up")])
        self.assert_both("", [])
        self.assert_fault("0+1 0+2", 0, 1)

    def test_ticks_below_0_and_great_keys(self):
        self.assert_both("15+-1000000000000000 15--7 15+0", [
            (-10 ** 15, 15, "down"), (-7, 15, "up"), (0, 15, "down"),
        ])
        self.assert_both("16+0 100+0 100-0", [(0, 16, "down"), (0, 100, "down"), (0, 100, "up")])

    def test_numbers_of_30_and_31_digits(self):
        nines = int("9" * 30)
        self.assert_both(f"0+-{'9' * 30} 0-{'9' * 30}", [(-nines, 0, "down"), (nines, 0, "up")])
        self.assert_both("9" * 30 + "+5", [(5, nines, "down")])
        for word in ("0+" + "9" * 31, "0+-" + "9" * 31, "9" * 31 + "+0", "0+1" + "0" * 30, "0+-1" + "0" * 30):
            self.assert_fault(word, 0, 0)
        self.assertEqual(format_record([(-10 ** 40, 10 ** 35, "down")]), f"1{'0' * 35}+-1{'0' * 40}")

    def test_words_that_are_no_event(self):
        for word in (
            "0+-0", "0--0", "0+00", "0+01", "00+0", "01+0", "0+-01", "-0+0", "-1+0", "+0", "-0", "0+", "0-", "0", "+", "-", "",
            "0+x", "x+0", "0+0+0", "0-0-0", "0+0-0", "0-0+0", "0+--1", "0++1", "0-+1", "0+1.0", "0*0", "0+0,", " 0+0",
            "0+0\n", "0+0\t", "0=0", "0 + 0", "a", "0+1_0", "0+\n1",
        ):
            self.assert_fault(f"1+-9 {word} 1-9", 0, 1)

    def test_events_that_cannot_follow(self):
        for text, word in (
            ("0-0", 0), ("0+0 0+0", 1), ("0+0 0-1 0-1", 2), ("0+5 1+4", 1), ("0+0 0-1 1-2", 2), ("0+5 0-4", 1),
            ("0+0 1+1 2+2 1+3", 3), ("0+0 0--1", 1), ("0+1 0+2 x", 1), ("0+1 x 0+2", 1),
        ):
            self.assert_fault(text, 0, word)

    def test_400_and_401_events(self):
        words = [f"0{'-' if at % 2 else '+'}{at}" for at in range(400)]
        record = [(at, 0, "up" if at % 2 else "down") for at in range(400)]
        self.assert_both(" ".join(words), record)
        for more in (["0+400"], ["0+400", "0-401"], ["?"], [""], ["0-400"], ["0+1"]):
            self.assert_fault(" ".join(words + more), 0, 400)
        self.assert_fault(" ".join(words[:399] + ["?"] * 2), 0, 399)

    def test_spaces(self):
        for text, word in (
            (" ", 0), ("  ", 0), (" 0+0", 0), ("0+0 ", 1), ("0+0  0-1", 1), ("0+0 0-1 ", 2), ("\n", 0), ("0+0\n0-1", 0),
        ):
            self.assert_fault(text, 0, word)

    def test_values_that_are_no_string(self):
        for value in NO_STRINGS:
            self.assert_fault(value, None, None)

    def test_values_that_are_no_record(self):
        for value, index in (
            (None, None), (tuple(RECORD), None), ([None] * 401, None), ([(0, 0, "up")], 0), ([(0, -1, "down")], 0),
            (RECORD + [(3, 0, "down")], 4), (RECORD[:2] + [[2, 1, "up"]], 2), ("0+0", None), ([(True, 0, "down")], 0),
        ):
            self.assertEqual(error_of(format_record, value), ("InvalidRecord", index))

    def test_many_records(self):
        chance = random.Random(811)
        for _ in range(400):
            record = models.some_record(chance, chance.randint(1, 20), chance.randint(0, 30))
            text = format_record(record)
            self.assert_both(text, record)
            self.assertEqual(record, events(text))
            cut = chance.randint(0, len(record))
            parts = [format_record(record[:cut])]
            if cut < len(record):
                parts.append(" ".join(word for word in text.split(" ")[cut:]))
            self.assertEqual(" ".join(part for part in parts if part), text)


class TestResultTexts(unittest.TestCase):
    def test_the_example(self):
        self.assertEqual(format_result([("press", "a"), (), ("release", "a")]), "+a . -a")

    def test_each_output(self):
        self.assertEqual(format_result([]), "")
        self.assertEqual(format_result([()]), ".")
        self.assertEqual(format_result([("release", "abcdefg9")]), "-abcdefg9")
        self.assertEqual(format_result([(), ()]), ". .")

    def test_400_and_401_outputs(self):
        self.assertEqual(format_result([()] * 400), " ".join(["."] * 400))
        self.assertEqual(error_of(format_result, [()] * 401), ("InvalidText", None, None))

    def test_values_that_are_no_result(self):
        itself = []
        itself.append(itself)
        for value in OTHER_KINDS + [
            itself, [None], (("press", "a"),), [("press", "a", "b")], [("press",)], [["press", "a"]], [("down", "a")],
            [("press", "A")], [("press", "")], [("press", "abcdefghi")], [("press", None)], [("press", b"a")], [[]],
            [(), None], ["+a"], [("press", EqualToAll())], [(EqualToAll(), "a")], [EqualToAll()], [(4, "press", "a")],
            [()] * 500, [None] * 500,
        ]:
            with self.subTest(value=value):
                self.assertEqual(error_of(format_result, value), ("InvalidText", None, None))

    def test_results_of_records(self):
        for layout, record in models.some_plays(821, 200):
            text = format_result(played(layout, record))
            expected = [
                "." if output == () else ("+" if output[0] == "press" else "-") + output[1]
                for output in models.played(layout, record)
            ]
            self.assertEqual(text.split(" ") if text else [], expected)


if __name__ == "__main__":
    unittest.main()
