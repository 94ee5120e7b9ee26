import unittest

from holdtap.board import outputs, waiting_at, walk_outputs
from holdtap.layouts import greatest_time
from holdtap.playing import flat, played
from holdtap.records import ended
from tests import models

LAYOUT = [
    [("dual", "a", ("layer", 1), 5, "time"), ("code", "x"), ("once", 1)],
    ["through", ("code", "1"), "through"],
]
RECORD = [(0, 0, "down"), (1, 1, "down"), (2, 1, "up"), (4, 0, "up")]
FAR = 10 ** 15


def with_rule(rule):
    return [[LAYOUT[0][0][:4] + (rule,)] + LAYOUT[0][1:], LAYOUT[1]]


class TestExamples(unittest.TestCase):
    def test_outputs(self):
        expected = [(4, "press", "a"), (4, "press", "x"), (4, "release", "x"), (4, "release", "a")]
        self.assertEqual(outputs(LAYOUT, RECORD), expected)
        self.assertEqual(list(walk_outputs(LAYOUT, RECORD)), expected)

    def test_waiting_at(self):
        found = [waiting_at(LAYOUT, RECORD, tick) for tick in [-1, 0, 2, 4]]
        self.assertEqual(found, [[], [0], [0, 1, 2], []])

    def test_too_late_for_a_tap_and_a_dual_without_an_up(self):
        held = RECORD[:3] + [(5, 0, "up")]
        self.assertEqual(
            [outputs(LAYOUT, held), list(walk_outputs(LAYOUT, RECORD[:2]))],
            [[(5, "press", "1"), (5, "release", "1")], [(5, "press", "1")]],
        )


class TestOutputs(unittest.TestCase):
    def test_each_rule(self):
        press, release = ("press", "1"), ("release", "1")
        self.assertEqual(outputs(with_rule("within"), RECORD), [(2,) + press, (2,) + release])
        self.assertEqual(outputs(with_rule("other"), RECORD), [(1,) + press, (2,) + release])

    def test_the_clock_comes_ahead_of_the_events_of_its_tick(self):
        layout = [[("dual", "a", ("code", "b"), 3, "time"), ("code", "x")]]
        record = [(0, 0, "down"), (3, 1, "down"), (3, 0, "up")]
        self.assertEqual(outputs(layout, record), [(3, "press", "b"), (3, "press", "x"), (3, "release", "b")])
        early = [(0, 0, "down"), (2, 1, "down"), (2, 0, "up")]
        self.assertEqual(outputs(layout, early), [(2, "press", "a"), (2, "press", "x"), (2, "release", "a")])

    def test_without_a_dual_nothing_waits(self):
        layout = [[("code", "a"), ("lock", 1)], [("code", "b"), "through"]]
        record = [(-3, 0, "down"), (-3, 1, "down"), (-1, 0, "up"), (2, 0, "down"), (2, 0, "up")]
        self.assertEqual(
            outputs(layout, record),
            [(-3, "press", "a"), (-1, "release", "a"), (2, "press", "b"), (2, "release", "b")],
        )
        for tick in range(-5, 5):
            self.assertEqual(waiting_at(layout, record, tick), [])

    def test_a_dual_is_looked_up_when_it_is_the_first_of_the_row(self):
        layout = [[("dual", "a", ("layer", 1), 5, "time"), ("dual", "b", ("code", "c"), 9, "time")],
                  ["through", ("dual", "d", ("code", "e"), 2, "time")]]
        record = [(0, 0, "down"), (1, 1, "down"), (8, 1, "up"), (8, 0, "up")]
        self.assertEqual(outputs(layout, record), [(5, "press", "e"), (8, "release", "e")])
        self.assertEqual(
            outputs(layout, record[:2] + [(4, 0, "up"), (8, 1, "up")]),
            [(4, "press", "a"), (8, "press", "b"), (8, "release", "a"), (8, "release", "b")],
        )

    def test_a_dual_whose_time_ended_while_it_waited(self):
        layout = [[("dual", "a", ("code", "b"), 9, "other"), ("dual", "c", ("code", "d"), 2, "time"),
                   ("dual", "e", ("code", "f"), 2, "time"), ("dual", "g", ("code", "h"), 9, "time")]]
        record = [(0, 3, "down"), (1, 1, "down"), (4, 2, "down"), (5, 1, "up"), (5, 3, "up"), (5, 2, "up")]
        self.assertEqual(outputs(layout, record), [
            (5, "press", "g"), (5, "press", "d"), (5, "press", "e"), (5, "release", "d"),
            (5, "release", "g"), (5, "release", "e"),
        ])

    def test_great_ticks_and_gaps(self):
        layout = [[("dual", "a", ("code", "b"), 10 ** 9, "time")]]
        record = [(-FAR, 0, "down"), (FAR, 0, "up"), (FAR, 0, "down")]
        self.assertEqual(outputs(layout, record), [
            (10 ** 9 - FAR, "press", "b"), (FAR, "release", "b"), (FAR + 10 ** 9, "press", "b"),
        ])
        self.assertEqual(waiting_at(layout, record, 10 ** 9 - FAR - 1), [0])
        self.assertEqual(waiting_at(layout, record, 10 ** 9 - FAR), [])
        self.assertEqual(waiting_at(layout, record, FAR + 10 ** 9 - 1), [2])
        self.assertEqual(waiting_at(layout, record, FAR + 10 ** 9), [])

    def test_empty_records(self):
        for layout in (LAYOUT, [["none"]], [[("code", "x")]]):
            self.assertEqual(outputs(layout, []), [])
            self.assertEqual(list(walk_outputs(layout, [])), [])
            self.assertEqual(waiting_at(layout, [], 0), [])

    def test_200_events_that_all_wait(self):
        layout = [[("dual", "a", ("code", "b"), 10 ** 9, "time"), ("code", "x")]]
        record = [(0, 0, "down")] + [(at, 1, "up" if at % 2 else "down") for at in range(198)]
        record.append((500, 0, "up"))
        self.assertEqual(len(record), 200)
        self.assertEqual(waiting_at(layout, record, 499), list(range(199)))
        self.assertEqual({output[0] for output in outputs(layout, record)}, {500})
        self.assertEqual(waiting_at(layout, record[:-1], 10 ** 9 - 1), list(range(199)))
        self.assertEqual({output[0] for output in outputs(layout, record[:-1])}, {10 ** 9})


class TestWaiting(unittest.TestCase):
    def test_ahead_between_at_and_behind(self):
        layout = [[("dual", "a", ("code", "b"), 5, "time"), ("dual", "c", ("code", "d"), 4, "time"),
                   ("code", "x")]]
        record = [(0, 0, "down"), (3, 1, "down"), (3, 2, "down"), (9, 0, "up"), (10, 1, "up")]
        expected = {
            -FAR: [], -1: [], 0: [0], 2: [0], 3: [0, 1, 2], 4: [0, 1, 2], 5: [1, 2], 6: [1, 2], 7: [],
            9: [], 10: [], FAR: [], 10 ** 30: [], -10 ** 30: [],
        }
        for tick, waiting in expected.items():
            with self.subTest(tick=tick):
                self.assertEqual(waiting_at(layout, record, tick), waiting)

    def test_an_event_that_is_done_at_its_own_tick_does_not_wait(self):
        layout = [[("dual", "a", ("code", "b"), 1, "time")]]
        record = [(0, 0, "down"), (0, 0, "up"), (0, 0, "down"), (1, 0, "up")]
        self.assertEqual(waiting_at(layout, record, 0), [2])
        self.assertEqual(waiting_at(layout, record, 1), [])

    def test_later_events_count_for_nothing(self):
        for layout, record in models.some_plays(33, 200):
            for many in range(len(record)):
                tick = record[many][0] - 1
                come = [event for event in record if event[0] <= tick]
                self.assertEqual(waiting_at(layout, record, tick), waiting_at(layout, come, tick))


class TestWalks(unittest.TestCase):
    LAYOUT = [[("dual", "a", ("code", "b"), 5, "time"), ("code", "x"), ("lock", 1)],
              ["through", ("code", "y"), "through"]]
    RECORD = [(0, 1, "down"), (1, 1, "up"), (2, 2, "down"), (3, 1, "down"), (4, 1, "up"),
              (5, 2, "up"), (6, 0, "down"), (7, 0, "up")]

    def test_two_walks_go_on_beside_one_another(self):
        expected = outputs(self.LAYOUT, self.RECORD)
        first, second = walk_outputs(self.LAYOUT, self.RECORD), walk_outputs(self.LAYOUT, self.RECORD)
        found = ([], [])
        for step in (0, 1, 1, 0, 0, 1, 0, 0, 1, 1, 1, 0):
            found[step].append(next((first, second)[step]))
        self.assertEqual(found, (expected, expected))
        self.assertEqual([list(first), list(second)], [[], []])

    def test_walks_over_different_records(self):
        first, second = walk_outputs(self.LAYOUT, self.RECORD), walk_outputs(LAYOUT, RECORD)
        found = [output for pair in zip(first, second) for output in pair]
        self.assertEqual(found[::2], outputs(self.LAYOUT, self.RECORD)[:4])
        self.assertEqual(found[1::2], outputs(LAYOUT, RECORD))

    def test_a_walk_that_stops_early(self):
        stopped = walk_outputs(self.LAYOUT, self.RECORD)
        self.assertEqual(next(stopped), (0, "press", "x"))
        stopped.close()
        self.assertEqual(list(stopped), [])
        self.assertEqual(list(walk_outputs(self.LAYOUT, self.RECORD)), outputs(self.LAYOUT, self.RECORD))

    def test_it_is_a_generator(self):
        walk = walk_outputs(self.LAYOUT, self.RECORD)
        self.assertIs(iter(walk), walk)
        self.assertEqual(next(walk), (0, "press", "x"))
        self.assertEqual(len(list(walk)), 5)


class TestAgainstTheModel(unittest.TestCase):
    def test_outputs_and_waiting(self):
        for layout, record in models.some_plays(30, 1000):
            with self.subTest(layout=layout, record=record):
                done = models.board(layout, record)
                expected = [
                    (tick,) + output
                    for tick, output in zip(done, models.played(layout, record)) if output
                ]
                self.assertEqual(outputs(layout, record), expected)
                self.assertEqual(list(walk_outputs(layout, record)), expected)
                for tick in range(-7, max(done, default=0) + 2):
                    waiting = [at for at, event in enumerate(record) if event[0] <= tick < done[at]]
                    self.assertEqual(waiting_at(layout, record, tick), waiting)

    def test_no_event_is_done_too_late(self):
        for layout, record in models.some_plays(31, 500):
            late = greatest_time(layout)
            for event in record:
                waiting = waiting_at(layout, record, event[0] + late)
                self.assertTrue(all(record[number][0] > event[0] for number in waiting))

    def test_the_outputs_are_those_of_playing(self):
        for layout, record in models.some_plays(32, 500):
            for many in range(len(record) + 1):
                part = record[:many]
                self.assertEqual([output[1:] for output in outputs(layout, part)], flat(layout, part))
            closed = ended(record)
            self.assertEqual(
                [output[1:] for output in outputs(layout, closed)],
                [output for output in played(layout, closed) if output],
            )


if __name__ == "__main__":
    unittest.main()
