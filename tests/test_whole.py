"""What the document promises of the whole program, over several of its files."""

import random
import unittest

from holdtap.board import outputs
from holdtap.combos import gated, with_combos
from holdtap.compare import parting_record, same_layouts
from holdtap.errors import TooLarge
from holdtap.halves import delays_for, late_results
from holdtap.lateness import done_ticks
from holdtap.layouts import greatest_time
from holdtap.live import Board
from holdtap.playing import codes_down, flat, layers_on, meanings, played
from holdtap.records import ended, is_whole, lengths, order_of, with_ticks
from holdtap.slack import shaken, slack
from holdtap.texts import format_layout, format_record, format_result, parse_layout, parse_record
from holdtap.times import by_time
from holdtap.timings import choices, results
from tests import combo_models, models
from tests.samples import LAYOUT, RECORD, dual
from tests.small_models import some_small_layout


def later(record, ticks):
    return [(tick + ticks, key, way) for tick, key, way in record]


class TestBoardsAndRecords(unittest.TestCase):
    def test_what_came_out_up_to_now_is_what_outputs_tells_of_the_record(self):
        for layout, record in models.some_plays(1001, 200):
            board, came = Board(layout), []
            for tick, key, way in record:
                came += getattr(board, way)(key, tick)
                expected = [output for output in outputs(layout, board.record) if output[0] <= board.now]
                self.assertEqual(came, expected)
                done = len(board.record) - board.waiting
                if not board.waiting:
                    self.assertEqual(board.codes, codes_down(layout, board.record))
                    self.assertEqual(board.layers, layers_on(layout, board.record))
                self.assertEqual(done, sum(done_tick <= board.now for done_tick in done_ticks(layout, board.record)))
            self.assertEqual(board, Board.of(layout, record) if record else Board(layout))

    def test_calls_that_are_called_back_leave_no_trace(self):
        chance = random.Random(1002)
        for layout, record in models.some_plays(1003, 100):
            board, came = Board(layout), []
            for tick, key, way in record:
                for _ in range(chance.randint(0, 2)):
                    chance.choice([board.down, board.up])(chance.randrange(len(layout[0])), tick)
                    board.undo()
                came += getattr(board, way)(key, tick)
            came += board.clock(10 ** 15)
            self.assertEqual(came, outputs(layout, record))

    def test_with_combos_a_board_plays_the_gated_record(self):
        chance = random.Random(1004)
        for layout, record in models.some_plays(1005, 150):
            combos = combo_models.some_combos(chance, len(layout[0]))
            board, came = Board(layout, combos), []
            for tick, key, way in record:
                came += getattr(board, way)(key, tick)
            came += board.clock(10 ** 15)
            left = gated(len(layout[0]), combos, record)
            self.assertEqual(came, outputs(with_combos(layout, combos), left))
            late = greatest_time(layout) + max([combo[1] for combo in combos], default=0)
            last = max([event[0] for event in record], default=0)
            self.assertTrue(all(output[0] <= last + late for output in came))

    def test_waiting_changes_only_ticks(self):
        for layout, record in models.some_plays(1006, 300):
            told = outputs(layout, record)
            self.assertEqual([output[1:] for output in told], flat(layout, record))
            self.assertEqual([output[0] for output in told], [
                tick for tick, output in zip(done_ticks(layout, record), played(layout, record)) if output
            ])


class TestWholeRecords(unittest.TestCase):
    def test_ended_records_are_whole_and_no_code_is_down_behind_them(self):
        for layout, record in models.some_plays(1011, 300):
            closed = ended(record)
            self.assertIs(is_whole(closed), True)
            self.assertEqual(codes_down(layout, closed), [])
            self.assertEqual(closed[:len(record)], record)
            self.assertEqual(played(layout, closed)[:len(record)], played(layout, record))
            behind = played(layout, closed)[len(record):]
            self.assertEqual(
                sorted(set(code for word, code in [output for output in behind if output])),
                codes_down(layout, record),
            )

    def test_each_release_belongs_to_what_its_press_became(self):
        for layout, record in models.some_plays(1012, 300):
            result, told = played(layout, record), meanings(layout, record)
            down = {}
            for at, (tick, key, way) in enumerate(record):
                if way == "down":
                    down[key] = told[at][2]
                else:
                    what = down.pop(key)
                    self.assertEqual(result[at], ("release", what[1]) if what[0] == "code" else ())

    def test_with_ticks_of_the_order_and_the_ticks_of_a_record_is_the_record(self):
        for layout, record in models.some_plays(1013, 200):
            ticks = [event[0] for event in record]
            self.assertEqual(with_ticks(order_of(record), ticks), record)
            self.assertEqual(order_of(with_ticks(order_of(record), [0] * len(record))), order_of(record))

    def test_moved_records_are_played_alike(self):
        for layout, record in models.some_plays(1014, 150):
            moved = later(record, 1000)
            self.assertEqual(played(layout, moved), played(layout, record))
            self.assertEqual(slack(layout, moved), slack(layout, record))
            self.assertEqual(outputs(layout, moved), [
                (tick + 1000, word, code) for tick, word, code in outputs(layout, record)
            ])


class TestCutAndJoined(unittest.TestCase):
    def plays(self, seed):
        """Two whole records of one layout, the first of which leaves layer 0 alone on, and both joined."""
        found, kept = list(models.some_plays(seed, 600)), 0
        for (layout, first), (_, second) in zip(found, found[1:]):
            second = [event for event in second if event[1] < len(layout[0])]
            first, second = ended(first), later(ended(second), 3 * 10 ** 9)
            if layers_on(layout, first) == [0]:
                kept += 1
                yield layout, first, second, first + second
        self.assertGreater(kept, 100)

    def test_played(self):
        for layout, first, second, both in self.plays(1021):
            self.assertEqual(played(layout, both), played(layout, first) + played(layout, second))
            self.assertEqual(flat(layout, both), flat(layout, first) + flat(layout, second))
            self.assertEqual(meanings(layout, both), meanings(layout, first) + meanings(layout, second))

    def test_with_a_clock(self):
        for layout, first, second, both in self.plays(1022):
            self.assertEqual(outputs(layout, both), outputs(layout, first) + outputs(layout, second))
            self.assertEqual(done_ticks(layout, both), done_ticks(layout, first) + done_ticks(layout, second))

    def test_formatted(self):
        for layout, first, second, both in self.plays(1023):
            parts = [format_record(record) for record in (first, second) if record]
            self.assertEqual(format_record(both), " ".join(parts))
            self.assertEqual(parse_record(" ".join(parts)), both)
            results_ = [format_result(played(layout, record)) for record in (first, second) if record]
            self.assertEqual(format_result(played(layout, both)), " ".join(results_))

    def test_measured(self):
        for layout, first, second, both in self.plays(1024):
            self.assertEqual(lengths(both), lengths(first) + lengths(second))
            measured = [slack(layout, record) for record in (first, second)]
            least = min([ticks for ticks in measured if ticks is not None], default=None)
            self.assertEqual(slack(layout, both), least)

    def test_a_record_that_is_cut_anywhere(self):
        for layout, record in models.some_plays(1025, 200):
            for many in range(len(record) + 1):
                part = format_record(record[:many])
                self.assertTrue(format_record(record).startswith(part))
                self.assertEqual(order_of(record)[:many], order_of(record[:many]))


class TestQuestionsThatMeet(unittest.TestCase):
    def test_texts_of_layouts_are_played_as_the_layouts(self):
        for layout, record in models.some_plays(1031, 200):
            again = parse_layout(format_layout(layout))
            self.assertEqual(again, layout)
            self.assertEqual(outputs(again, parse_record(format_record(record))), outputs(layout, record))

    def test_shaken_records_give_other_choices_of_the_same_order(self):
        tried = 0
        for layout, record in models.some_plays(1032, 300, 8):
            moved = shaken(layout, record)
            if moved is None:
                continue
            tried += 1
            try:
                possible = choices(layout, order_of(record))
            except TooLarge:
                continue
            self.assertGreater(len(possible), 1)
            self.assertIn(played(layout, moved), results(layout, order_of(record)))
        self.assertGreater(tried, 50)

    def test_each_time_gives_one_of_the_results_of_some_timing(self):
        layout = [[dual(5, hold=("layer", 1)), ("code", "x")], ["through", ("code", "y")]]
        record = [(0, 0, "down"), (3, 1, "down"), (4, 1, "up"), (9, 0, "up")]
        for first, last, result in by_time(layout, record, 0, 0):
            self.assertIn(result, results(layout, order_of(record)))

    def test_late_events_of_all_keys_give_only_results_of_the_order(self):
        for layout, record in models.some_plays(1033, 150, 8):
            keys = list(range(len(layout[0])))
            possible = [
                [output for output in result if output] for result in results(layout, order_of(record))
            ]
            for result in late_results(layout, record, keys, 7):
                self.assertIn(result, possible)
                self.assertEqual(len(delays_for(layout, record, keys, 7, result)), len(record))

    def test_parting_records_part_boards(self):
        chance = random.Random(1034)
        parted = 0
        for _ in range(60):
            layout, other = some_small_layout(chance, 2, 2), some_small_layout(chance, 2, 2)
            found = parting_record(layout, other)
            self.assertIs(same_layouts(layout, other), found is None)
            if found is not None:
                parted += 1
                self.assertEqual(ended(found), found)
                results_ = [format_result(played(one, found)) for one in (layout, other)]
                self.assertNotEqual(*results_)
        self.assertGreater(parted, 30)

    def test_the_record_of_the_examples(self):
        self.assertEqual(parse_layout("a/@1:5t x ^1\n- 1 -"), LAYOUT)
        self.assertEqual(parse_record("0+0 1+1 1-2 0-4"), RECORD)


if __name__ == "__main__":
    unittest.main()
