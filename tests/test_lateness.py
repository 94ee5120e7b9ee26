import unittest

from holdtap.board import outputs, waiting_at
from holdtap.lateness import done_ticks, held_by
from holdtap.layouts import greatest_time
from holdtap.playing import meanings, played, sure_by
from tests import models

RECORD = [(0, 0, "down"), (1, 1, "down"), (2, 1, "up"), (4, 0, "up")]
FAR = 10 ** 15


def with_rule(rule):
    return [
        [("dual", "a", ("layer", 1), 5, rule), ("code", "x"), ("once", 1)],
        ["through", ("code", "1"), "through"],
    ]


def dual(time, rule="time"):
    return ("dual", "a", ("code", "b"), time, rule)


class TestExamples(unittest.TestCase):
    def test_each_rule(self):
        layouts = [with_rule(rule) for rule in ("time", "within", "other")]
        self.assertEqual(
            [done_ticks(layout, RECORD) for layout in layouts],
            [[4, 4, 4, 4], [2, 2, 2, 4], [1, 1, 2, 4]],
        )
        self.assertEqual(
            [held_by(layout, RECORD) for layout in layouts],
            [[0, 0, 0, None], [0, 0, None, None], [0, None, None, None]],
        )

    def test_two_duals(self):
        two = [
            [("dual", "a", ("layer", 1), 5, "time"), ("dual", "b", ("layer", 1), 4, "time")],
            ["through", "through"],
        ]
        record = [(0, 0, "down"), (3, 1, "down"), (9, 0, "up"), (10, 1, "up")]
        self.assertEqual(
            [done_ticks(two, record), held_by(two, record)], [[5, 7, 9, 10], [0, 1, None, None]]
        )


class TestLateness(unittest.TestCase):
    def check(self, layout, record, done, held):
        self.assertEqual(done_ticks(layout, record), done)
        self.assertEqual(held_by(layout, record), held)

    def test_without_a_dual(self):
        layout = [[("code", "x"), ("layer", 1)], ["none", "through"]]
        record = [(-3, 0, "down"), (0, 1, "down"), (0, 0, "up"), (FAR, 1, "up")]
        self.check(layout, record, [-3, 0, 0, FAR], [None] * 4)

    def test_empty_records(self):
        self.check([[dual(5)]], [], [], [])
        self.check([["none"]], [], [], [])

    def test_a_tap_and_a_hold(self):
        layout = [[dual(5)]]
        self.check(layout, [(0, 0, "down"), (0, 0, "up")], [0, 0], [None, None])
        self.check(layout, [(0, 0, "down"), (4, 0, "up")], [4, 4], [0, None])
        self.check(layout, [(0, 0, "down"), (5, 0, "up")], [5, 5], [0, None])
        self.check(layout, [(0, 0, "down"), (6, 0, "up")], [5, 6], [0, None])
        self.check(layout, [(-2, 0, "down")], [3], [0])

    def test_a_decision_at_the_end_of_the_time_counts_as_none(self):
        for rule, come in (("other", [(4, 1, "down")]), ("within", [(0, 1, "down"), (4, 1, "up")])):
            layout = [[dual(5, rule), ("code", "x")]]
            early = [(0, 0, "down")] + come
            self.assertEqual(done_ticks(layout, early)[0], 4)
            late = [(0, 0, "down")] + come[:-1] + [(7,) + come[-1][1:]]
            self.assertEqual(done_ticks(layout, late)[0], 5)

    def test_several_presses_at_once(self):
        layout = [[dual(9), dual(3), dual(20), ("code", "x")]]
        record = [(0, 0, "down"), (1, 1, "down"), (2, 2, "down"), (3, 3, "down"), (30, 0, "up")]
        self.check(layout, record, [9, 9, 22, 22, 30], [0, 0, 2, 2, None])

    def test_equal_decisions(self):
        layout = [[dual(9), dual(7), dual(6), ("code", "x")]]
        record = [(0, 0, "down"), (2, 1, "down"), (3, 2, "down"), (4, 3, "down"), (9, 3, "up")]
        self.check(layout, record, [9] * 5, [0, 0, 0, 0, None])
        swapped = [[dual(5), dual(7), dual(6), ("code", "x")]]
        self.check(swapped, record, [5, 9, 9, 9, 9], [0, 1, 1, 1, None])

    def test_a_press_that_is_done_late_only_as_an_earlier_one_waits(self):
        layout = [[dual(9), dual(3), ("code", "x")]]
        record = [(0, 0, "down"), (1, 1, "down"), (2, 1, "up"), (3, 2, "down"), (8, 0, "up"),
                  (8, 2, "up")]
        self.check(layout, record, [8, 8, 8, 8, 8, 8], [0, 0, 0, 0, None, None])

    def test_an_event_at_its_own_tick_is_held_by_none(self):
        layout = [[dual(5), ("code", "x")]]
        record = [(0, 0, "down"), (5, 1, "down"), (5, 1, "up"), (6, 0, "up")]
        self.check(layout, record, [5, 5, 5, 6], [0, None, None, None])
        other = [[dual(5, "other"), ("code", "x")]]
        self.check(other, [(3, 0, "down"), (3, 1, "down"), (3, 1, "up")], [3, 3, 3], [None] * 3)

    def test_great_gaps_and_times(self):
        layout = [[dual(10 ** 9)]]
        record = [(-FAR, 0, "down"), (FAR, 0, "up"), (FAR, 0, "down")]
        self.check(layout, record, [10 ** 9 - FAR, FAR, FAR + 10 ** 9], [0, None, 2])

    def test_200_events(self):
        layout = [[dual(3)]]
        record = [(2 * at, 0, "up" if at % 2 else "down") for at in range(200)]
        self.check(layout, record, [2 * (at + 1 - at % 2) for at in range(200)],
                   [None if at % 2 else at for at in range(200)])


class TestAgainstTheModel(unittest.TestCase):
    def test_done_ticks_are_those_of_the_board(self):
        for layout, record in models.some_plays(40, 1500):
            done = models.board(layout, record)
            with self.subTest(layout=layout, record=record):
                self.assertEqual(done_ticks(layout, record), done)
                self.assertEqual(
                    outputs(layout, record),
                    [(tick,) + output for tick, output in zip(done, played(layout, record)) if output],
                )
                late = greatest_time(layout)
                self.assertTrue(all(tick <= event[0] + late for tick, event in zip(done, record)))

    def test_held_by(self):
        for layout, record in models.some_plays(41, 1500):
            told, sure, done = meanings(layout, record), sure_by(layout, record), done_ticks(layout, record)
            decisions = {}
            for at, meaning in enumerate(told):
                if meaning and meaning[1] != "plain":
                    time = layout[meaning[0]][record[at][1]][3]
                    decisions[at] = record[at][0] + time if sure[at] is None else record[sure[at]][0]
            for at, held in enumerate(held_by(layout, record)):
                first = [n for n in decisions if n <= at and decisions[n] == done[at]][:1]
                self.assertEqual([] if held is None else [held], first if done[at] > record[at][0] else [])

    def test_events_wait_until_they_are_done(self):
        for layout, record in models.some_plays(42, 300):
            for at, done in enumerate(done_ticks(layout, record)):
                self.assertNotIn(at, waiting_at(layout, record, done))
                if done > record[at][0]:
                    self.assertIn(at, waiting_at(layout, record, done - 1))


if __name__ == "__main__":
    unittest.main()
