import copy
import unittest

from holdtap import (
    board, combos, compare, console, differences, errors, halves, lateness, layouts, live, playing, records,
    slack, texts, times, timings, typed,
)
from holdtap.errors import HoldError, InvalidLayout, InvalidRecord

LAYOUT = [
    [("dual", "a", ("layer", 1), 5, "time"), ("code", "x"), ("once", 1)],
    ["through", ("code", "1"), "through"],
]
RECORD = [(0, 0, "down"), (1, 1, "down"), (2, 1, "up"), (4, 0, "up")]
ORDER = [(0, "down"), (1, "down"), (1, "up"), (0, "up")]
COMBOS = [((0, 1), 3, "q"), ((0, 1, 2), 9, "w")]
BOUNDS = [(0, 1, 0), (1, 2, 5), (2, 3, 0), (3, 0, -7)]
TAPPED = [("press", "a"), ("press", "x"), ("release", "x"), ("release", "a")]
QUICK = [[("dual", "a", ("layer", 1), 3, "time"), ("code", "x")], ["through", ("code", "1")]]
SLOW = [[("dual", "a", ("layer", 1), 4, "time"), ("code", "x")], ["through", ("code", "1")]]
SHAKEN = [(-1, 0, "down"), (1, 1, "down"), (2, 1, "up"), (5, 0, "up")]
HELD = [(), ("press", "1"), ("release", "1"), ()]
WISHES = [(RECORD, TAPPED), ([(0, 0, "down"), (9, 0, "up")], [(), ()])]
CLASHING = [(RECORD, TAPPED), (RECORD, TAPPED), (RECORD, HELD)]
NESTED = [[("dual", "a", ("code", "b"), 5, "time"), ("dual", "c", ("code", "d"), 5, "time")]]


def walked(layout, record):
    return list(board.walk_outputs(layout, record))


def live_calls(layout, joined):
    """What comes out of a board, and its state."""
    board_ = live.Board(layout, joined)
    out = [getattr(board_, way)(key, tick) for tick, key, way in RECORD]
    return out + [board_.clock(30), board_.record, board_.layers, board_.codes]


def live_record(layout, record):
    board_ = live.Board.of(layout, record)
    return [board_.record, board_.layers, board_.codes, board_.fork().record]


def gapped(layout, order, gap, most):
    return timings.choices(layout, order, gap=gap, most=most)


def typed_alone(layout, codes):
    return typed.typed(layout, codes, alone=True)


def executed(*rows):
    """The answers of a new console to these rows."""
    console_ = console.Console()
    return [console_.execute(row) for row in rows]


WRONG = [[["through", "bad"]], [(0, 0, "down"), (0, 0, "down")], [(0, "down"), None], [], None]

CALLS = [
    (layouts.is_layout, [LAYOUT]),
    (layouts.key_count, [LAYOUT]),
    (layouts.duals, [LAYOUT]),
    (layouts.greatest_time, [LAYOUT]),
    (layouts.with_action, [LAYOUT, 1, 2, ("code", "z")]),
    (records.is_record, [RECORD]),
    (records.is_order, [ORDER]),
    (records.is_whole, [RECORD]),
    (records.order_of, [RECORD]),
    (records.lengths, [RECORD]),
    (records.ended, [RECORD]),
    (records.ended, [RECORD[:3]]),
    (records.ended, [[]]),
    (records.lengths, [[]]),
    (records.with_ticks, [ORDER, [0, 0, 7, 9]]),
    (playing.played, [LAYOUT, RECORD]),
    (playing.played, [LAYOUT, []]),
    (playing.flat, [LAYOUT, RECORD]),
    (playing.meanings, [LAYOUT, RECORD]),
    (playing.sure_by, [LAYOUT, RECORD]),
    (playing.layers_on, [LAYOUT, RECORD[:2]]),
    (playing.codes_down, [LAYOUT, RECORD[:2]]),
    (board.outputs, [LAYOUT, RECORD]),
    (walked, [LAYOUT, RECORD]),
    (board.waiting_at, [LAYOUT, RECORD, 2]),
    (lateness.done_ticks, [LAYOUT, RECORD]),
    (lateness.held_by, [LAYOUT, RECORD]),
    (combos.is_combos, [COMBOS, 3]),
    (combos.pieces, [3, COMBOS, RECORD]),
    (combos.gated, [3, COMBOS, RECORD]),
    (combos.gated, [3, [], RECORD]),
    (combos.with_combos, [LAYOUT, COMBOS]),
    (combos.with_combos, [LAYOUT, []]),
    (live_calls, [LAYOUT, COMBOS]),
    (live_calls, [LAYOUT, None]),
    (live_record, [LAYOUT, RECORD]),
    (differences.is_bounds, [BOUNDS, 4]),
    (differences.holds, [4, BOUNDS, [0, 0, 5, 5]]),
    (differences.least_numbers, [4, BOUNDS]),
    (differences.ring_of, [4, BOUNDS[:3] + [(3, 0, -4)]]),
    (differences.is_ring, [4, BOUNDS[:3] + [(3, 0, -4)], [0, 1, 2, 3]]),
    (differences.least_difference, [4, BOUNDS, 0, 3]),
    (timings.choices, [LAYOUT, ORDER]),
    (timings.choices, [LAYOUT, []]),
    (gapped, [LAYOUT, ORDER, 1, 4]),
    (timings.results, [LAYOUT, ORDER]),
    (timings.sure_outputs, [LAYOUT, ORDER]),
    (timings.ticks_for, [LAYOUT, ORDER, TAPPED]),
    (timings.why_not, [NESTED, ORDER, ("tap", "hold")]),
    (slack.slack, [LAYOUT, RECORD]),
    (slack.shaken, [LAYOUT, RECORD]),
    (slack.shaken, [LAYOUT, RECORD[:3] + [(9, 0, "up")]]),
    (slack.is_shaken, [LAYOUT, RECORD, SHAKEN, 1]),
    (times.by_time, [LAYOUT, RECORD, 0, 0]),
    (times.good_times, [LAYOUT, WISHES, 0, 0]),
    (times.best_time, [LAYOUT, WISHES, 0, 0]),
    (times.clash, [LAYOUT, CLASHING, 0, 0]),
    (times.is_clash, [LAYOUT, CLASHING, 0, 0, [0, 2]]),
    (halves.late_results, [LAYOUT, RECORD, [1], 3]),
    (halves.delays_for, [LAYOUT, RECORD, [1], 3, TAPPED]),
    (halves.delays_for, [LAYOUT, [], [1], 3, []]),
    (halves.safe_late, [LAYOUT, RECORD, [1], 100]),
    (compare.same_layouts, [QUICK, SLOW]),
    (compare.parting_record, [QUICK, SLOW]),
    (compare.unused_layers, [QUICK + [["none", "none"]]]),
    (compare.unused_places, [QUICK + [["none", "none"]]]),
    (compare.idle_times, [QUICK + [[("dual", "a", ("code", "b"), 3, "time"), "none"]]]),
    (typed.typed, [QUICK, ["a", "1"]]),
    (typed.typed, [QUICK, []]),
    (typed_alone, [QUICK, ["x", "1"]]),
    (typed.is_typed, [QUICK, ["x"], [(0, 1, "down"), (1, 1, "up")]]),
    (texts.format_layout, [LAYOUT]),
    (texts.parse_layout, ["a/@1:5t x ^1\n- 1 -"]),
    (texts.format_record, [RECORD]),
    (texts.parse_record, ["0+0 1+1 1-2 0-4"]),
    (texts.parse_record, [""]),
    (texts.format_result, [TAPPED]),
    (executed, ["layout a/@1:5t x ^1;- 1 -", "down 0 0", "record"]),
]


def lists_within(value):
    """The value's lists: itself and the items of it, at any depth."""
    if not isinstance(value, list):
        return []
    return [value] + [found for item in value for found in lists_within(item)]


def outcome(call, args):
    """What a call returns, or its error's name and fields."""
    try:
        return call(*args)
    except HoldError as error:
        return error.__class__.__name__, vars(error)


class TestConventions(unittest.TestCase):
    def test_the_interface_is_defined_in_its_files(self):
        names = {
            layouts: ["is_layout", "key_count", "duals", "greatest_time", "with_action"],
            records: [
                "is_record", "is_order", "is_whole", "order_of", "lengths", "ended", "with_ticks",
            ],
            errors: ["HoldError"],
            playing: ["played", "flat", "meanings", "sure_by", "layers_on", "codes_down"],
            board: ["outputs", "walk_outputs", "waiting_at"],
            lateness: ["done_ticks", "held_by"],
            combos: ["is_combos", "pieces", "gated", "with_combos"],
            live: ["Board"],
            differences: [
                "is_bounds", "holds", "least_numbers", "ring_of", "is_ring", "least_difference",
            ],
            timings: ["choices", "results", "sure_outputs", "ticks_for", "why_not"],
            slack: ["slack", "shaken", "is_shaken"],
            times: ["by_time", "good_times", "best_time", "clash", "is_clash"],
            halves: ["late_results", "delays_for", "safe_late"],
            compare: [
                "same_layouts", "parting_record", "unused_layers", "unused_places", "idle_times",
            ],
            typed: ["typed", "is_typed"],
            texts: ["format_layout", "parse_layout", "format_record", "parse_record", "format_result"],
            console: ["Console"],
        }
        for module, listed in names.items():
            for name in listed:
                with self.subTest(name):
                    self.assertEqual(getattr(module, name).__module__, module.__name__)

    def test_the_methods_of_a_board_stand_in_its_class(self):
        for name in ("down", "up", "clock", "undo", "fork", "of", "__len__", "__eq__", "__init__"):
            self.assertIn(name, vars(live.Board))
        for name in ("record", "now", "waiting", "layers", "codes"):
            self.assertIsInstance(vars(live.Board)[name], property)
        self.assertIsInstance(vars(live.Board)["of"], classmethod)
        self.assertIn("execute", vars(console.Console))

    def test_arguments_are_not_modified(self):
        for call, args in CALLS:
            with self.subTest(call=call.__name__):
                passed = copy.deepcopy(args)
                call(*passed)
                self.assertEqual(passed, args)

    def test_arguments_are_not_modified_by_calls_that_fail(self):
        for call, args in CALLS:
            for wrong in WRONG:
                for at in range(len(args)):
                    with self.subTest(call=call.__name__, wrong=wrong, at=at):
                        passed = copy.deepcopy(args[:at] + [wrong] + args[at + 1:])
                        kept = copy.deepcopy(passed)
                        outcome(call, passed)
                        self.assertEqual(passed, kept)

    def test_two_calls_with_equal_arguments_give_equal_results(self):
        for call, args in CALLS:
            for many in range(len(args)):
                for wrong in WRONG + [args[many]]:
                    with self.subTest(call=call.__name__, wrong=wrong):
                        passed = args[:many] + [wrong] + args[many + 1:]
                        first = outcome(call, copy.deepcopy(passed))
                        second = outcome(call, copy.deepcopy(passed))
                        self.assertEqual(first, second)

    def test_returned_lists_are_new(self):
        for call, args in CALLS:
            with self.subTest(call=call.__name__):
                passed = copy.deepcopy(args)
                first, second = call(*passed), call(*passed)
                mine = lists_within(first)
                others = lists_within(second)
                for arg in passed:
                    others += lists_within(arg)
                for one in mine:
                    self.assertFalse(any(one is other for other in others))
                self.assertEqual(len(mine), len({id(one) for one in mine}))

    def test_changing_a_returned_list_changes_nothing_later(self):
        for call, args in CALLS:
            with self.subTest(call=call.__name__):
                passed = copy.deepcopy(args)
                first = call(*passed)
                kept = copy.deepcopy(first)
                for one in lists_within(first):
                    one.append("changed")
                self.assertEqual(passed, args)
                self.assertEqual(call(*passed), kept)

    def test_layers_that_are_one_list_are_parted(self):
        row = ["none", "none"]
        layout = [row, row]
        changed = layouts.with_action(layout, 1, 0, ("code", "x"))
        self.assertEqual(changed, [["none", "none"], [("code", "x"), "none"]])
        changed[0].append("changed")
        self.assertEqual(changed[1], [("code", "x"), "none"])
        self.assertEqual(layout, [["none", "none"], ["none", "none"]])

    def test_a_result_does_not_follow_its_arguments(self):
        layout, record, ticks = copy.deepcopy(LAYOUT), list(RECORD), [0, 1, 2, 4]
        changed = layouts.with_action(layout, 0, 0, "none")
        closed = records.ended(record)
        joined = records.with_ticks(records.order_of(record), ticks)
        layout[1][1] = "none"
        record.append((9, 5, "down"))
        ticks[0] = -7
        self.assertEqual(changed, [["none", ("code", "x"), ("once", 1)], LAYOUT[1]])
        self.assertEqual(closed, RECORD)
        self.assertEqual(joined, RECORD)

    def test_a_layout_that_was_changed_in_place_is_judged_as_it_is(self):
        layout = copy.deepcopy(LAYOUT)
        self.assertIs(layouts.is_layout(layout), True)
        self.assertEqual(layouts.key_count(layout), 3)
        layout[1][0] = ("dual", "a", ("code", "b"), 8, "other")
        self.assertEqual(layouts.duals(layout), [(0, 0), (1, 0)])
        self.assertEqual(layouts.greatest_time(layout), 8)
        for layer in layout:
            layer.append("none")
        self.assertEqual(layouts.key_count(layout), 4)
        layout[0][3] = "through"
        self.assertIs(layouts.is_layout(layout), False)
        with self.assertRaises(InvalidLayout) as caught:
            layouts.key_count(layout)
        self.assertEqual((caught.exception.layer, caught.exception.key), (0, 3))
        layout[0].pop()
        with self.assertRaises(InvalidLayout) as caught:
            layouts.duals(layout)
        self.assertEqual((caught.exception.layer, caught.exception.key), (None, None))
        layout[1].pop()
        self.assertIs(layouts.is_layout(layout), True)

    def test_a_record_that_was_changed_in_place_is_judged_as_it_is(self):
        record = list(RECORD)
        self.assertIs(records.is_whole(record), True)
        record.append((5, 7, "down"))
        self.assertIs(records.is_whole(record), False)
        self.assertEqual(records.lengths(record), [4, 1, None, None, None])
        record[3] = (5, 0, "up")
        self.assertEqual(records.lengths(record), [5, 1, None, None, None])
        record[3] = (6, 0, "up")
        self.assertIs(records.is_record(record), False)
        with self.assertRaises(InvalidRecord) as caught:
            records.lengths(record)
        self.assertEqual(caught.exception.index, 4)

    def test_what_was_changed_in_place_is_played_as_it_is(self):
        layout, record = copy.deepcopy(LAYOUT), list(RECORD)
        self.assertEqual(playing.flat(layout, record)[0], ("press", "a"))
        self.assertEqual(lateness.done_ticks(layout, record), [4, 4, 4, 4])
        layout[0][0] = ("dual", "a", ("layer", 1), 4, "time")
        self.assertEqual(playing.flat(layout, record)[0], ("press", "1"))
        self.assertEqual(board.outputs(layout, record), [(4, "press", "1"), (4, "release", "1")])
        record[3] = (3, 0, "up")
        self.assertEqual(playing.flat(layout, record)[0], ("press", "a"))
        self.assertEqual(walked(layout, record)[0], (3, "press", "a"))
        self.assertEqual(board.waiting_at(layout, record, 2), [0, 1, 2])
        layout[0][0] = ("code", "b")
        self.assertEqual(board.waiting_at(layout, record, 2), [])
        self.assertEqual(lateness.held_by(layout, record), [None] * 4)
        self.assertEqual(playing.codes_down(layout, record[:1]), ["b"])
        record[0] = (0, 3, "down")
        with self.assertRaises(InvalidRecord) as caught:
            playing.sure_by(layout, record)
        self.assertEqual(caught.exception.index, 0)

    def test_an_order_that_was_changed_in_place_is_judged_as_it_is(self):
        order = list(ORDER)
        self.assertIs(records.is_order(order), True)
        order[3] = (1, "up")
        self.assertIs(records.is_order(order), False)
        order[3] = (1, "down")
        self.assertEqual(records.with_ticks(order, [1, 1, 1, 1])[3], (1, 1, "down"))

    def test_combos_bounds_and_orders_that_were_changed_in_place(self):
        joined, bounds, order = list(COMBOS), list(BOUNDS), list(ORDER)
        self.assertEqual(combos.pieces(3, joined, RECORD), [[0, 1]])
        joined[0] = ((0, 2), 3, "q")
        self.assertEqual(combos.pieces(3, joined, RECORD), [[0], [1]])
        joined.append(((0, 2), 5, "r"))
        self.assertIs(combos.is_combos(joined, 3), False)
        self.assertEqual(differences.least_numbers(4, bounds), [0, 0, 5, 5])
        bounds[1] = (1, 2, 7)
        self.assertEqual(differences.least_numbers(4, bounds), [0, 0, 7, 7])
        bounds[1] = (1, 2, 8)
        self.assertIsNone(differences.least_numbers(4, bounds))
        bounds[1] = None
        self.assertIs(differences.is_bounds(bounds, 4), False)
        self.assertEqual(len(timings.choices(NESTED, order)), 3)
        order[2], order[3] = order[3], order[2]
        self.assertEqual(len(timings.choices(NESTED, order)), 4)
        order.pop()
        self.assertEqual(len(timings.choices(NESTED, order)), 2)

    def test_records_wishes_and_keys_that_were_changed_in_place(self):
        layout, record, keys = copy.deepcopy(LAYOUT), list(RECORD), [1]
        self.assertEqual(slack.slack(layout, record), 0)
        self.assertEqual(halves.safe_late(layout, record, keys, 100), 2)
        record[3] = (9, 0, "up")
        self.assertEqual(slack.slack(layout, record), 2)
        self.assertEqual(len(halves.late_results(layout, record, keys, 8)), 1)
        self.assertEqual(len(halves.late_results(layout, record, keys, 9)), 2)
        keys[0] = 0
        self.assertEqual(len(halves.late_results(layout, record, keys, 3)), 2)
        keys.append(0)
        self.assertEqual(outcome(halves.safe_late, [layout, record, keys, 3])[0], "InvalidKey")
        layout[0][0] = ("dual", "a", ("layer", 1), 9, "within")
        self.assertIsNone(slack.slack(layout, record))
        self.assertIs(slack.is_shaken(layout, record, SHAKEN, 4), False)
        wishes = [(RECORD, list(TAPPED))]
        self.assertEqual(times.good_times(LAYOUT, wishes, 0, 0), [(5, 10 ** 9)])
        wishes[0][1][0] = ("press", "b")
        self.assertEqual(times.good_times(LAYOUT, wishes, 0, 0), [])
        self.assertEqual(times.clash(LAYOUT, wishes, 0, 0), [0])
        wishes[0][1].pop()
        self.assertEqual(outcome(times.best_time, [LAYOUT, wishes, 0, 0])[0], "InvalidWishes")

    def test_small_layouts_codes_and_results_that_were_changed_in_place(self):
        layout, codes, result = copy.deepcopy(QUICK), ["1"], list(TAPPED)
        self.assertIs(compare.same_layouts(layout, QUICK), True)
        self.assertEqual(len(typed.typed(layout, codes)), 4)
        self.assertEqual(compare.unused_places(layout), [])
        layout[0][0] = ("once", 1)
        self.assertIs(compare.same_layouts(layout, QUICK), False)
        self.assertEqual(len(compare.parting_record(layout, QUICK)), 2)
        layout[1][0] = ("code", "y")
        codes.append("y")
        self.assertEqual(len(typed.typed(layout, codes)), 8)
        self.assertEqual(texts.format_layout(layout), "^1 x\ny 1")
        layout[0][0] = "none"
        self.assertEqual(compare.unused_layers(layout), [1])
        self.assertEqual(compare.unused_places(layout), [(1, 0), (1, 1)])
        self.assertIsNone(typed.typed(layout, codes))
        codes.append("Y")
        self.assertEqual(outcome(typed.typed, [layout, codes])[0], "InvalidCodes")
        layout[0][0] = ("dual", "a", ("code", "a"), 2, "within")
        self.assertEqual(compare.idle_times(layout), [(0, 0)])
        layout[0][0] = ("dual", "a", ("code", "a"), 5, "within")
        self.assertEqual(outcome(compare.idle_times, [layout]), ("TooLarge", {"limit": 4}))
        self.assertEqual(texts.format_result(result), "+a +x -x -a")
        result[1] = ()
        self.assertEqual(texts.format_result(result), "+a . -x -a")

    def test_returned_values_are_accepted(self):
        self.assertEqual(playing.flat(combos.with_combos(LAYOUT, COMBOS), combos.gated(3, COMBOS, RECORD)),
                         [("press", "q"), ("release", "q")])
        self.assertEqual(timings.ticks_for(LAYOUT, ORDER, timings.results(LAYOUT, ORDER)[1]), [0, 0, 0, 5])
        moved = slack.shaken(LAYOUT, RECORD)
        self.assertEqual(playing.played(LAYOUT, moved), HELD)
        self.assertIs(slack.is_shaken(LAYOUT, moved, RECORD, 1), True)
        first, last, result = times.by_time(LAYOUT, RECORD, 0, 0)[1]
        self.assertEqual(times.good_times(LAYOUT, [(RECORD, result)], 0, 0), [(first, last)])
        found = times.clash(LAYOUT, CLASHING, 0, 0)
        self.assertIs(times.is_clash(LAYOUT, CLASHING, 0, 0, found), True)
        for result in halves.late_results(LAYOUT, RECORD, [0, 1], 5):
            self.assertEqual(len(halves.delays_for(LAYOUT, RECORD, [0, 1], 5, result)), 4)
        found = compare.parting_record(QUICK, SLOW)
        self.assertNotEqual(playing.played(QUICK, found), playing.played(SLOW, found))
        self.assertEqual(texts.parse_record(texts.format_record(found)), found)
        self.assertEqual(texts.parse_layout(texts.format_layout(QUICK)), QUICK)
        self.assertIs(typed.is_typed(QUICK, ["a", "1"], typed.typed(QUICK, ["a", "1"])), True)
        ring = timings.why_not(NESTED, ORDER, ("tap", "hold"))
        self.assertIsNone(differences.least_numbers(4, ring))
        changed = layouts.with_action(LAYOUT, 0, 1, "none")
        self.assertEqual(layouts.with_action(changed, 0, 1, ("code", "x")), LAYOUT)
        for many in range(5):
            closed = records.ended(RECORD[:many])
            self.assertIs(records.is_record(closed), True)
            self.assertEqual(records.ended(closed), closed)
            again = records.with_ticks(records.order_of(closed), [0] * len(closed))
            self.assertIs(records.is_record(again), True)


if __name__ == "__main__":
    unittest.main()
