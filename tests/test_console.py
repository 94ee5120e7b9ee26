import random
import unittest

from holdtap.board import outputs
from holdtap.console import Console
from holdtap.live import Board
from holdtap.playing import played
from holdtap.records import order_of
from holdtap.slack import slack
from holdtap.texts import format_layout, format_record, format_result
from holdtap.timings import results, sure_outputs
from tests import models
from tests.any_values import OTHER_KINDS
from tests.samples import LAYOUT, dual, error_of

TEXT = "a/@1:5t x ^1;- 1 -"
WITHOUT_ARGUMENTS = [
    "undo", "record", "played", "layers", "codes", "waiting", "slack", "results", "sure",
]


def told(outputs_):
    """Outputs as the console writes them."""
    signs = {"press": "+", "release": "-"}
    return " ".join(f"{tick}:{signs[word]}{code}" for tick, word, code in outputs_) or "none"


def begun(text=TEXT, rows=()):
    """A console with a layout on which these commands were run."""
    console = Console()
    for row in ["layout " + text] + list(rows):
        console.execute(row)
    return console


def answers(console):
    """All that the commands tell that change nothing; for those that fail their errors."""
    return [
        error_of(console.execute, row) or console.execute(row) for row in WITHOUT_ARGUMENTS if row != "undo"
    ]


class TestSession(unittest.TestCase):
    def test_the_session(self):
        console = Console()
        rows = ["layout a/@1:5t x ^1;- 1 -", "down 0 0", "down 1 1", "up 1 2", "waiting", "up 0 4"]
        self.assertEqual([console.execute(row) for row in rows], [
            "ok", "none", "none", "none", "3", "4:+a 4:+x 4:-x 4:-a",
        ])
        rows = ["played", "slack", "results", "sure", "undo", "clock 5", "layers", "codes"]
        self.assertEqual([console.execute(row) for row in rows], [
            "+a +x -x -a", "0", "2", "? ? ? ?", "ok", "5:+1 5:-1", "0 1", "none",
        ])
        self.assertEqual(error_of(Console().execute, "down 0 0")[0], "InvalidCommand")

    def test_it_is_a_class_with_its_own_method(self):
        self.assertIn("execute", vars(Console))
        self.assertEqual(Console.__module__, "holdtap.console")
        with self.assertRaises(TypeError):
            Console(LAYOUT)


class TestCommands(unittest.TestCase):
    def run_all(self, console, pairs):
        for row, answer in pairs:
            with self.subTest(row=row):
                self.assertEqual(console.execute(row), answer)

    def test_each_command_on_an_empty_board(self):
        self.run_all(begun(), [
            ("record", "none"), ("played", "none"), ("layers", "0"), ("codes", "none"), ("waiting", "0"),
            ("slack", "none"), ("results", "1"), ("sure", "none"), ("clock -5", "none"), ("up 2 -5", "none"),
        ])

    def test_down_up_and_clock(self):
        self.run_all(begun("x y"), [
            ("down 0 -3", "-3:+x"), ("down 1 -3", "-3:+y"), ("down 1 0", "0:-y 0:+y"), ("clock 4", "none"),
            ("up 0 4", "4:-x"), ("up 0 5", "none"), ("record", "0+-3 1+-3 1-0 1+0 0-4"), ("played", "+x +y -y +y -x"),
            ("codes", "y"), ("down 0 1000000000000000", "1000000000000000:+x"), ("codes", "x y"),
        ])

    def test_an_event_without_an_output(self):
        self.run_all(begun(". !1;- x"), [
            ("down 0 0", "none"), ("up 0 0", "none"), ("played", ". ."), ("sure", ". ."), ("results", "1"),
            ("down 1 1", "none"), ("layers", "0 1"), ("up 1 1", "none"), ("down 1 2", "2:+x"), ("sure", ". . . . +x"),
        ])

    def test_slack_results_and_sure(self):
        self.run_all(begun("a/b:5t x"), [
            ("down 0 0", "none"), ("slack", "none"), ("results", "1"), ("sure", "+b"), ("up 0 2", "2:+a 2:-a"),
            ("slack", "1"), ("results", "2"), ("sure", "? ?"), ("down 1 9", "9:+x"), ("sure", "? ? +x"),
        ])

    def test_layout_takes_any_text_of_a_layout(self):
        console = Console()
        for layout in (LAYOUT, [["none"]], [[("code", "x")] * 16] * 6, [[dual(10 ** 9, "within")]]):
            self.assertEqual(console.execute("layout " + format_layout(layout).replace("\n", ";")), "ok")
            self.assertEqual(console.execute("record"), "none")

    def test_a_second_layout_begins_anew(self):
        console = begun("x", ["down 0 7"])
        self.run_all(console, [
            ("layout y z", "ok"), ("record", "none"), ("codes", "none"), ("down 1 -9", "-9:+z"), ("undo", "ok"),
        ])
        self.assertEqual(error_of(console.execute, "undo")[0], "NothingToUndo")
        self.run_all(console, [("layout x", "ok"), ("clock 0", "none"), ("layout x", "ok"), ("clock -3", "none")])

    def test_undo_as_often_as_there_were_calls_and_once_more(self):
        console = begun()
        rows = ["down 0 0", "clock 1", "up 2 1", "down 0 2", "record", "up 0 4", "clock 9"]
        states = []
        for row in rows:
            states.append(answers(console))
            console.execute(row)
        del states[rows.index("record")]
        for state in reversed(states):
            self.assertEqual(console.execute("undo"), "ok")
            self.assertEqual(answers(console), state)
        self.assertEqual(error_of(console.execute, "undo")[0], "NothingToUndo")
        self.assertEqual(answers(console), states[0])
        self.assertEqual(console.execute("down 0 0"), "none")

    def test_two_consoles_side_by_side(self):
        first, second = begun(), begun("x y")
        self.run_all(first, [("down 0 0", "none")])
        self.run_all(second, [("down 0 0", "0:+x"), ("codes", "x")])
        self.run_all(first, [("codes", "none"), ("waiting", "1"), ("clock 5", "none"), ("layers", "0 1")])
        self.run_all(second, [("layers", "0"), ("undo", "ok"), ("record", "none")])
        self.run_all(first, [("record", "0+0")])
        self.assertEqual(error_of(Console().execute, "record")[0], "InvalidCommand")


class TestErrors(unittest.TestCase):
    WRONG = [
        "", " ", "\n", "none", "hello", "layout", "layout ", " layout x", "layout  x", "layout x ", "layout x  y", "Layout x",
        "LAYOUT x", "layout\nx", "layout x\n- x", "layout x;- \n", "layout; x", "down", "down 0", "down 0 0 0", "down 0  0",
        " down 0 0", "down 0 0 ", "down  0 0", "Down 0 0", "DOWN 0 0", "down 0 0\n", "down\n0 0", "down 0 x", "down x 0",
        "down -1 0", "down 00 0", "down 01 0", "down 0 00", "down 0 01", "down 0 -0", "down 0 +1", "down +0 1", "down 0 1.0",
        "down 0 --1", "down 0 " + "1" * 31, "down 0 -" + "1" * 31, "down " + "1" * 31 + " 0", "down 0+0", "down 0,0",
        "up", "up 0", "up 0 0 0", "Up 0 0", "up -0 0", "up 0 -0", "up 0 0 ", "clock", "clock x", "clock 0 0", "clock -0",
        "clock 00", "clock ", " clock 0", "Clock 0", "clock 1.", "clock 0\n", "undo 1", "undo ", " undo", "Undo", "undo\n",
        "record 0", "record ", "Record", "played x", "layers 0", "codes a", "waiting 0", "slack 0", "results 0", "sure ?",
        "sure  ", "down\t0 0", "fork", "of", "now", "layer", "code", "exit", "down 0 1_0",
    ]

    def assert_invalid(self, row):
        for console in (Console(), begun(), begun(rows=["down 0 0", "down 1 1", "clock 3"])):
            with self.subTest(row=row):
                before = answers(console)
                self.assertEqual(error_of(console.execute, row)[0], "InvalidCommand")
                self.assertEqual(answers(console), before)

    def test_rows_that_are_no_command(self):
        for row in self.WRONG:
            self.assert_invalid(row)

    def test_values_that_are_no_string(self):
        for value in OTHER_KINDS + [["record"], ("record",), b"record", {"record": 1}]:
            if value != "none" or not isinstance(value, str):
                self.assert_invalid(value)

    def test_each_command_without_a_layout(self):
        for row in WITHOUT_ARGUMENTS + ["down 0 0", "up 0 0", "clock 0", "down 99 0"]:
            console = Console()
            self.assertEqual(error_of(console.execute, row)[0], "InvalidCommand")
            self.assertEqual(console.execute("layout x"), "ok")
            self.assertEqual(console.execute("record"), "none")

    def test_texts_that_are_no_layout(self):
        for text, line, word in (
            ("-", 0, 0), ("x;@2", 1, 0), ("x;", 1, 0), (";", 0, 0), ("x y;-", 1, 1), ("x; -", 1, 0), ("x;;-", 1, 0),
            ("@1", 0, 0), ("x ?", 0, 1), (" ".join(["x"] * 17), 0, 16), (";".join(["x"] * 7), 6, 0), ("x y;- - -", 1, 2),
            ("x;- ;-", 1, 1), ("layout", None, None),
        ):
            if line is None:
                continue
            for console in (Console(), begun(), begun(rows=["down 0 0", "clock 3"])):
                before = answers(console)
                self.assertEqual(error_of(console.execute, "layout " + text), ("InvalidText", line, word))
                self.assertEqual(answers(console), before)
        console = Console()
        error_of(console.execute, "layout ?")
        self.assertEqual(error_of(console.execute, "record")[0], "InvalidCommand")

    def test_errors_of_what_is_behind_a_command(self):
        console = begun(rows=["down 0 0", "clock 3"])
        before = answers(console)
        for row, error in (
            ("down 3 5", "InvalidKey"), ("up 3 5", "InvalidKey"), ("down 3 0", "InvalidKey"), ("up 16 2", "InvalidKey"),
            ("down " + "9" * 30 + " 5", "InvalidKey"), ("down 0 2", "InvalidTick"), ("up 0 2", "InvalidTick"),
            ("up 1 2", "InvalidTick"), ("clock 2", "InvalidTick"), ("clock -" + "9" * 30, "InvalidTick"),
        ):
            self.assertEqual(error_of(console.execute, row)[0], error)
            self.assertEqual(answers(console), before)
        self.assertEqual(console.execute("clock 3"), "none")
        self.assertEqual(error_of(begun().execute, "undo")[0], "NothingToUndo")
        self.assertEqual(begun().execute("clock " + "9" * 30), "none")

    def test_records_that_are_too_large(self):
        console = begun("x a/b:5t")
        for at in range(20):
            console.execute(f"down 0 {at}")
            console.execute(f"up 0 {at}")
        self.assertEqual([console.execute("results"), console.execute("slack")], ["1", "none"])
        console.execute("down 0 20")
        before = console.execute("record")
        for row in ("results", "sure"):
            self.assertEqual(error_of(console.execute, row), ("TooLarge", 40))
        self.assertEqual(console.execute("record"), before)
        self.assertEqual(len(console.execute("played").split(" ")), 41)
        console = begun("x a/b:5t")
        for at in range(11):
            console.execute(f"down 1 {at}")
        for row in ("results", "sure"):
            self.assertEqual(error_of(console.execute, row), ("TooLarge", 10))

    def test_a_failed_command_can_not_be_reverted(self):
        console = begun(rows=["down 0 0"])
        for row in ("down 9 9", "clock -1", "hello", "layout ?"):
            self.assertIsNotNone(error_of(console.execute, row))
        self.assertEqual(console.execute("undo"), "ok")
        self.assertEqual(error_of(console.execute, "undo")[0], "NothingToUndo")


class TestAgainstWhatIsBehind(unittest.TestCase):
    def test_answers_are_those_of_board_and_functions(self):
        chance = random.Random(901)
        for _ in range(120):
            layout = models.some_layout(chance)
            console, board, tick = Console(), Board(layout), chance.randint(-5, 5)
            console.execute("layout " + format_layout(layout).replace("\n", ";"))
            calls = 0
            for _ in range(chance.randint(0, 14)):
                word = chance.choice(["down", "down", "up", "up", "clock", "undo"])
                if word == "undo":
                    if calls:
                        self.assertEqual(console.execute("undo"), "ok")
                        board.undo()
                        calls -= 1
                        tick = board.now if board.now is not None else tick
                    continue
                tick += chance.choice([0, 0, 1, 2, 4])
                args = [tick] if word == "clock" else [chance.randrange(len(layout[0])), tick]
                row = " ".join([word] + [str(arg) for arg in args])
                self.assertEqual(console.execute(row), told(getattr(board, word)(*args)))
                calls += 1
                self.check(console, board, layout)

    def check(self, console, board, layout):
        record = board.record
        self.assertEqual(console.execute("record"), format_record(record) or "none")
        self.assertEqual(console.execute("played"), format_result(played(layout, record)) or "none")
        self.assertEqual(console.execute("layers"), " ".join(str(layer) for layer in board.layers))
        self.assertEqual(console.execute("codes"), " ".join(board.codes) or "none")
        self.assertEqual(console.execute("waiting"), str(board.waiting))
        ticks = slack(layout, record)
        self.assertEqual(console.execute("slack"), "none" if ticks is None else str(ticks))
        order = order_of(record)
        error = error_of(results, layout, order)
        if error is not None:
            self.assertEqual(error_of(console.execute, "results"), error)
            self.assertEqual(error_of(console.execute, "sure"), error)
            return
        self.assertEqual(console.execute("results"), str(len(results(layout, order))))
        words = ["?" if output is None else format_result([output]) for output in sure_outputs(layout, order)]
        self.assertEqual(console.execute("sure"), " ".join(words) or "none")

    def test_what_came_out_up_to_now_is_what_outputs_tells(self):
        chance = random.Random(902)
        for layout, record in models.some_plays(903, 150):
            console = Console()
            console.execute("layout " + format_layout(layout).replace("\n", ";"))
            came = []
            for tick, key, way in record:
                came += [console.execute(f"{way} {key} {tick}")]
                if chance.random() < 0.3:
                    came += [console.execute(f"clock {tick}")]
            came = [word for answer in came if answer != "none" for word in answer.split(" ")]
            now = record[-1][0] if record else 0
            expected = [output for output in outputs(layout, record) if output[0] <= now]
            self.assertEqual(" ".join(came) or "none", told(expected))
            rest = outputs(layout, record)[len(expected):]
            self.assertEqual(console.execute(f"clock {now + 100}"), told(rest))
            self.assertEqual(console.execute("waiting"), "0")


if __name__ == "__main__":
    unittest.main()
