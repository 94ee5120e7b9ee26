import copy
import random
import unittest

from holdtap.board import outputs, waiting_at
from holdtap.combos import gated, with_combos
from holdtap.errors import (
    InvalidCombos, InvalidKey, InvalidLayout, InvalidRecord, InvalidTick, NothingToUndo, TooLarge,
)
from holdtap.live import Board
from tests import combo_models, models
from tests.any_values import OTHER_KINDS, EqualToAll

LAYOUT = [
    [("dual", "a", ("layer", 1), 5, "time"), ("code", "x"), ("once", 1)],
    ["through", ("code", "1"), "through"],
]
RECORD = [(0, 0, "down"), (1, 1, "down"), (2, 1, "up"), (4, 0, "up")]
PLAIN = [[("code", "x"), ("code", "y"), ("code", "z")]]
COMBOS = [((0, 1), 3, "q")]
FAR = 10 ** 15


def state(board):
    return board.record, board.now, board.waiting, board.layers, board.codes, len(board)


def send(board, record):
    """Send the events to the board; return what came out in each call."""
    return [getattr(board, way)(key, tick) for tick, key, way in record]


class TestExamples(unittest.TestCase):
    def test_without_combos(self):
        board = Board(LAYOUT)
        self.assertEqual(
            [board.down(0, 0), board.down(1, 1), board.clock(4), board.waiting, board.up(1, 5)],
            [[], [], [], 2, [(5, "press", "1"), (5, "release", "1")]],
        )
        self.assertEqual(
            [board.layers, board.codes, board.undo(), board.waiting, board.up(0, 4)],
            [[0, 1], [], None, 2, [(4, "press", "a"), (4, "press", "x"), (4, "release", "a")]],
        )
        self.assertEqual(
            [board.record, board.now, len(board), board.codes, board == Board.of(LAYOUT, board.record)],
            [[(0, 0, "down"), (1, 1, "down"), (4, 0, "up")], 4, 3, ["x"], True],
        )

    def test_with_combos(self):
        board = Board(PLAIN, COMBOS)
        self.assertEqual(
            [board.down(0, 0), board.down(1, 2), board.up(0, 7), board.down(2, 8), board.down(2, 9),
             board.up(1, 9)],
            [[], [(2, "press", "q")], [(7, "release", "q")], [(8, "press", "z")],
             [(9, "release", "z"), (9, "press", "z")], []],
        )


class TestCalls(unittest.TestCase):
    def test_a_new_board(self):
        for board in (Board(LAYOUT), Board(LAYOUT, None), Board(LAYOUT, []), Board(LAYOUT, COMBOS),
                      Board(LAYOUT, combos=COMBOS), Board.of(LAYOUT, [])):
            self.assertEqual(state(board), ([], None, 0, [0], [], 0))

    def test_a_down_of_a_key_that_is_down(self):
        board = Board(LAYOUT)
        self.assertEqual(board.down(0, 0), [])
        self.assertEqual(board.down(0, 4), [(4, "press", "a"), (4, "release", "a")])
        self.assertEqual(board.record, [(0, 0, "down"), (4, 0, "up"), (4, 0, "down")])
        self.assertEqual(board.waiting, 1)
        self.assertEqual(board.down(0, 9), [])
        self.assertEqual(board.record[3:], [(9, 0, "up"), (9, 0, "down")])
        self.assertEqual((len(board), board.now, board.waiting, board.layers), (5, 9, 1, [0]))
        self.assertEqual(board.clock(14), [])
        self.assertEqual(board.layers, [0, 1])

    def test_the_clock_comes_ahead_of_such_a_down(self):
        board = Board([[("dual", "a", ("code", "b"), 5, "time")]])
        board.down(0, 0)
        self.assertEqual(board.down(0, 5), [(5, "press", "b"), (5, "release", "b")])
        self.assertEqual(board.down(0, 30), [(10, "press", "b"), (30, "release", "b")])

    def test_an_up_of_a_key_that_is_up_is_only_a_clock(self):
        board = Board(LAYOUT)
        self.assertEqual(board.up(0, -7), [])
        self.assertEqual(state(board), ([], -7, 0, [0], [], 0))
        board.down(0, 0)
        board.down(1, 1)
        self.assertEqual(board.up(2, 4), [])
        self.assertEqual(board.up(2, 5), [(5, "press", "1")])
        self.assertEqual(board.record, RECORD[:2])
        self.assertEqual(board.now, 5)
        board.up(0, 6)
        self.assertEqual(board.up(0, 9), [])
        self.assertEqual((len(board), board.now), (3, 9))

    def test_the_same_tick_several_times(self):
        board = Board(LAYOUT)
        self.assertEqual([board.clock(3), board.clock(3), board.down(0, 3), board.up(0, 3)],
                         [[], [], [], [(3, "press", "a"), (3, "release", "a")]])
        self.assertEqual([board.down(1, 3), board.clock(3), board.up(1, 3), board.up(1, 3)],
                         [[(3, "press", "x")], [], [(3, "release", "x")], []])
        self.assertEqual(board.record, [(3, 0, "down"), (3, 0, "up"), (3, 1, "down"), (3, 1, "up")])

    def test_ticks_far_on_and_below_0(self):
        board = Board([[("dual", "a", ("code", "b"), 10 ** 9, "time"), ("code", "x")]])
        self.assertEqual([board.clock(-FAR), board.down(0, -FAR), board.clock(10 ** 9 - FAR - 1)], [[]] * 3)
        self.assertEqual(board.down(1, FAR), [(10 ** 9 - FAR, "press", "b"), (FAR, "press", "x")])
        self.assertEqual(board.now, FAR)

    def test_the_clock_goes_through_several_dues(self):
        layout = [[("dual", "a", ("code", "b"), 5, "time"), ("dual", "c", ("code", "d"), 9, "time"),
                   ("code", "x")]]
        board = Board(layout)
        send(board, [(0, 0, "down"), (1, 1, "down"), (2, 2, "down")])
        self.assertEqual(board.waiting, 3)
        self.assertEqual(board.clock(100), [(5, "press", "b"), (10, "press", "d"), (10, "press", "x")])
        self.assertEqual((board.waiting, board.codes, board.now), (0, ["b", "d", "x"], 100))

    def test_layers_and_codes_are_those_behind_the_events_that_are_done(self):
        board = Board(LAYOUT)
        board.down(0, 0)
        self.assertEqual((board.layers, board.codes, board.waiting), ([0], [], 1))
        board.down(1, 1)
        board.clock(5)
        self.assertEqual((board.layers, board.codes, board.waiting), ([0, 1], ["1"], 0))
        board.up(0, 6)
        self.assertEqual((board.layers, board.codes), ([0], ["1"]))
        board.up(1, 7)
        self.assertEqual((board.layers, board.codes), ([0], []))

    def test_codes_that_are_down_several_times(self):
        board = Board([[("code", "b"), ("code", "b"), ("code", "a")]])
        send(board, [(0, 0, "down"), (0, 1, "down"), (0, 2, "down"), (1, 0, "up")])
        self.assertEqual(board.codes, ["a", "b"])
        board.up(1, 1)
        self.assertEqual(board.codes, ["a"])

    def test_16_keys_without_combos(self):
        board = Board([[("code", "k" + str(key)) for key in range(16)]])
        for key in range(16):
            self.assertEqual(board.down(key, key), [(key, "press", "k" + str(key))])
        self.assertEqual(board.fork().up(15, 20), [(20, "release", "k15")])


class TestGateAndRow(unittest.TestCase):
    LAYOUT = [[("dual", "a", ("code", "b"), 4, "time"), ("code", "y"), ("code", "z")]]

    def test_downs_wait_in_the_gate_and_then_in_the_row(self):
        board = Board(self.LAYOUT, COMBOS)
        self.assertEqual([board.down(0, 0), board.clock(2)], [[], []])
        self.assertEqual((board.waiting, board.codes), (1, []))
        self.assertEqual([board.clock(3), board.waiting], [[], 1])
        self.assertEqual([board.clock(6), board.waiting], [[], 1])
        self.assertEqual([board.clock(7), board.waiting, board.codes], [[(7, "press", "b")], 0, ["b"]])

    def test_the_time_of_a_dual_begins_when_its_down_leaves_the_gate(self):
        board = Board(self.LAYOUT, COMBOS)
        board.down(0, 0)
        self.assertEqual(board.up(0, 6), [(6, "press", "a"), (6, "release", "a")])
        board.down(0, 10)
        self.assertEqual(board.up(0, 12), [(12, "press", "a"), (12, "release", "a")])
        board.down(0, 20)
        self.assertEqual(board.up(0, 27), [(27, "press", "b"), (27, "release", "b")])

    def test_both_wait_at_once(self):
        board = Board(self.LAYOUT, [((1, 2), 9, "q")])
        board.down(0, 0)
        board.down(1, 1)
        self.assertEqual(board.waiting, 2)
        self.assertEqual(board.clock(4), [(4, "press", "b")])
        self.assertEqual(board.waiting, 1)
        self.assertEqual(board.down(2, 9), [(9, "press", "q")])
        self.assertEqual((board.waiting, board.codes), (0, ["b", "q"]))

    def test_the_row_is_ahead_of_the_gate_at_one_and_the_same_tick(self):
        layout = [[("dual", "a", ("code", "b"), 5, "other"), ("code", "y"), ("code", "z"),
                   ("dual", "c", ("code", "d"), 5, "other")]]
        board = Board(layout, [((1, 2), 4, "q")])
        self.assertEqual([board.down(0, 0), board.down(1, 1)], [[], []])
        self.assertEqual(board.clock(4), [])
        self.assertEqual(board.clock(5), [(5, "press", "b"), (5, "press", "y")])
        tap = Board([[("dual", "a", ("layer", 1), 5, "within"), ("code", "y"), ("code", "z")],
                     ["through", "none", "none"]], [((1, 2), 4, "q")])
        send(tap, [(0, 0, "down"), (1, 1, "down")])
        self.assertEqual([tap.clock(5), tap.layers], [[], [0, 1]])

    def test_dues_of_row_and_gate_in_turn(self):
        layout = [[("dual", "a", ("code", "b"), 3, "time"), ("code", "y"), ("code", "z"),
                   ("dual", "c", ("code", "d"), 3, "time")]]
        combos = [((0, 1), 2, "q"), ((1, 2), 7, "r"), ((2, 3), 6, "s")]
        record = [(0, 0, "down"), (1, 2, "down")]
        board = Board(layout, combos)
        self.assertEqual(send(board, record), [[], []])
        self.assertEqual(board.waiting, 2)
        self.assertEqual(board.clock(50), [(4, "press", "b"), (8, "press", "z")])
        self.assertEqual(outputs(with_combos(layout, combos), gated(4, combos, record)),
                         [(4, "press", "b"), (8, "press", "z")])

    def test_own_keys_are_no_keys_of_the_board(self):
        board = Board(PLAIN, COMBOS)
        for call in (board.down, board.up):
            with self.assertRaises(InvalidKey):
                call(3, 0)
        self.assertEqual(state(board), ([], None, 0, [0], [], 0))

    def test_a_combo_takes_its_code_from_layer_0_in_all_layers(self):
        layout = [[("code", "x"), ("code", "y"), ("lock", 1)], ["none", "none", "through"]]
        board = Board(layout, COMBOS)
        self.assertEqual(send(board, [(0, 2, "down"), (1, 0, "down"), (2, 1, "down"), (9, 1, "up")]),
                         [[], [], [(2, "press", "q")], [(9, "release", "q")]])

    def test_a_down_of_a_key_that_is_down_in_the_gate(self):
        board = Board(PLAIN, COMBOS)
        self.assertEqual(board.down(0, 0), [])
        self.assertEqual(board.down(0, 2), [(2, "press", "x"), (2, "release", "x")])
        self.assertEqual(board.waiting, 1)
        self.assertEqual(board.down(1, 4), [(4, "press", "q")])
        self.assertEqual(board.down(1, 5), [(5, "release", "q")])
        self.assertEqual(board.record[-2:], [(5, 1, "up"), (5, 1, "down")])
        self.assertEqual(board.clock(8), [(8, "press", "y")])


class TestUndo(unittest.TestCase):
    def test_behind_each_kind_of_call(self):
        for combos in (None, COMBOS):
            board = Board(LAYOUT, combos)
            calls = [
                lambda: board.clock(-3), lambda: board.down(0, 0), lambda: board.down(1, 1),
                lambda: board.up(1, 2), lambda: board.up(1, 2), lambda: board.down(0, 4),
                lambda: board.clock(4), lambda: board.clock(9), lambda: board.up(0, 10),
                lambda: board.down(2, 10), lambda: board.down(1, 11), lambda: board.clock(50),
            ]
            states, results = [], []
            for call in calls:
                states.append(state(board))
                results.append(call())
            end = state(board)
            for before in reversed(states):
                self.assertIsNone(board.undo())
                self.assertEqual(state(board), before)
            with self.assertRaises(NothingToUndo):
                board.undo()
            self.assertEqual([call() for call in calls], results)
            self.assertEqual(state(board), end)

    def test_undo_one_after_each_call_and_do_it_again(self):
        for layout, combos, calls in some_calls(70, 60):
            board = Board(layout, combos)
            for name, args in calls:
                before = state(board)
                out = getattr(board, name)(*args)
                after = state(board)
                board.undo()
                self.assertEqual(state(board), before)
                self.assertEqual(getattr(board, name)(*args), out)
                self.assertEqual(state(board), after)

    def test_nothing_to_undo(self):
        for board in (Board(LAYOUT), Board(LAYOUT, COMBOS), Board.of(LAYOUT, RECORD), Board(LAYOUT).fork()):
            before = state(board)
            for _ in range(2):
                with self.assertRaises(NothingToUndo):
                    board.undo()
            self.assertEqual(state(board), before)

    def test_a_call_that_fails_is_not_reverted(self):
        board = Board(LAYOUT)
        board.down(0, 0)
        for call in (lambda: board.down(3, 0), lambda: board.up(0, -1), lambda: board.clock(None)):
            with self.assertRaises((InvalidKey, InvalidTick)):
                call()
        board.undo()
        self.assertEqual(board.record, [])
        with self.assertRaises(NothingToUndo):
            board.undo()

    def test_now_goes_back(self):
        board = Board(LAYOUT)
        board.clock(5)
        board.clock(9)
        board.undo()
        self.assertEqual(board.now, 5)
        self.assertEqual(board.down(1, 6), [(6, "press", "x")])
        board.undo()
        board.undo()
        self.assertIsNone(board.now)
        self.assertEqual(board.clock(-FAR), [])

    def test_200_calls(self):
        board = Board(LAYOUT, COMBOS)
        for at in range(200):
            board.down(at % 3, at)
        self.assertEqual(len(board), 200 + 197)
        for at in range(200):
            board.undo()
        self.assertEqual(state(board), ([], None, 0, [0], [], 0))

    def test_200_calls_behind_a_record_of_200_events(self):
        record = [(0, 1, "up" if at % 2 else "down") for at in range(200)]
        board = Board.of(LAYOUT, record)
        board.down(0, 1)
        for at in range(199):
            board.down(0, at + 1)
        self.assertEqual(len(board), 599)
        self.assertEqual(board.waiting, 1)


class TestFork(unittest.TestCase):
    def test_a_fork_goes_on_beside_its_board(self):
        board = Board(LAYOUT)
        send(board, RECORD[:2])
        fork = board.fork()
        self.assertIsInstance(fork, Board)
        self.assertEqual(state(fork), state(board))
        self.assertTrue(fork == board)
        self.assertEqual(board.up(0, 4), [(4, "press", "a"), (4, "press", "x"), (4, "release", "a")])
        self.assertEqual(fork.up(0, 5), [(5, "press", "1")])
        self.assertEqual(fork.codes, ["1"])
        self.assertEqual(board.codes, ["x"])
        self.assertFalse(fork == board)

    def test_both_undo_for_themselves_also_what_came_before_the_fork(self):
        for combos in (None, COMBOS):
            board = Board(LAYOUT, combos)
            board.down(0, 0)
            first = state(board)
            board.down(1, 1)
            both = state(board)
            fork = board.fork()
            fork.clock(3)
            fork.undo()
            self.assertEqual(state(fork), both)
            fork.undo()
            self.assertEqual(state(fork), first)
            self.assertEqual(state(board), both)
            fork.up(0, 9)
            board.undo()
            self.assertEqual(state(board), first)
            board.down(2, 2)
            board.undo()
            board.undo()
            self.assertEqual(state(board), ([], None, 0, [0], [], 0))
            fork.undo()
            self.assertEqual(state(fork), first)
            fork.undo()
            for other in (board, fork):
                with self.assertRaises(NothingToUndo):
                    other.undo()

    def test_a_fork_of_a_fork(self):
        board = Board(LAYOUT, COMBOS)
        forks = []
        for tick, key, way in RECORD:
            forks.append(board.fork())
            getattr(board, way)(key, tick)
        for many, fork in enumerate(forks):
            self.assertEqual(fork.record, RECORD[:many])
            self.assertEqual(send(fork.fork(), RECORD[many:]), send(fork, RECORD[many:]))
            self.assertTrue(fork == board)
            self.assertEqual(state(fork), state(board))

    def test_one_board_sends_on_from_what_the_other_has_reverted_to(self):
        board = Board(LAYOUT)
        send(board, RECORD[:2])
        fork = board.fork()
        board.undo()
        fork.undo()
        self.assertEqual(board.up(0, 2), [(2, "press", "a"), (2, "release", "a")])
        self.assertEqual(fork.clock(5), [])
        self.assertEqual((fork.layers, fork.waiting, board.layers), ([0, 1], 0, [0]))


class TestOf(unittest.TestCase):
    def test_records(self):
        for record in ([], RECORD, RECORD[:2], [(-FAR, 0, "down")], [(3, 2, "down"), (3, 2, "up")]):
            board, sent = Board.of(LAYOUT, record), Board(LAYOUT)
            send(sent, record)
            self.assertEqual(state(board), state(sent))
            self.assertTrue(board == sent)
            self.assertEqual(board.record, record)
            self.assertEqual(board.now, record[-1][0] if record else None)

    def test_nothing_is_reverted_that_came_with_the_record(self):
        board = Board.of(LAYOUT, RECORD[:2])
        self.assertEqual(board.clock(9), [(5, "press", "1")])
        board.undo()
        self.assertEqual((board.record, board.now, board.waiting), (RECORD[:2], 1, 2))
        with self.assertRaises(NothingToUndo):
            board.undo()

    def test_it_goes_on(self):
        board = Board.of(LAYOUT, RECORD[:3])
        self.assertEqual(board.up(0, 4), outputs(LAYOUT, RECORD))

    def test_great_records(self):
        for many in (200, 400):
            record = [(at, 0, "up" if at % 2 else "down") for at in range(many)]
            self.assertEqual(len(Board.of(LAYOUT, record)), many)
            self.assertEqual(Board.of(LAYOUT, record).record, record)

    def test_errors(self):
        for layout in (None, [], [["through"]]):
            with self.assertRaises(InvalidLayout):
                Board.of(layout, None)
        for index, record in (
            (None, None), (None, tuple(RECORD)), (0, [None]), (1, [(0, 0, "down"), (1, 3, "down"), None]),
            (1, [(0, 0, "down"), (0, 0, "down")]), (None, [None] * 401), (0, [None] * 400),
        ):
            with self.assertRaises(InvalidRecord) as caught:
                Board.of(LAYOUT, record)
            self.assertEqual(caught.exception.index, index)


class TestEquality(unittest.TestCase):
    def test_equal_boards(self):
        for first, second in (
            (Board(LAYOUT), Board(copy.deepcopy(LAYOUT))), (Board(LAYOUT), Board(LAYOUT, [])),
            (Board(LAYOUT, []), Board(LAYOUT, None)), (Board(PLAIN, COMBOS), Board(PLAIN, list(COMBOS))),
        ):
            self.assertIs(first == second, True)
            self.assertIs(first != second, False)
            first.down(0, 1)
            self.assertIs(first == second, False)
            self.assertIs(first != second, True)
            second.down(0, 1)
            self.assertIs(first == second, True)

    def test_what_makes_boards_differ(self):
        board = Board(PLAIN)
        board.down(0, 1)
        others = [Board([PLAIN[0], ["through"] * 3]), Board(PLAIN, COMBOS), Board(PLAIN), Board(PLAIN)]
        others[0].down(0, 1)
        others[1].down(0, 1)
        others[2].down(1, 1)
        others[3].down(0, 1)
        self.assertTrue(board == others[3])
        others[3].clock(2)
        for other in others:
            self.assertIs(board == other, False)
        self.assertEqual(others[3].record, board.record)
        board.clock(2)
        self.assertTrue(board == others[3])
        self.assertIs(Board(PLAIN, [((0, 1), 3, "q")]) == Board(PLAIN, [((0, 1), 4, "q")]), False)
        self.assertIs(Board(PLAIN) == Board([[("code", "x"), ("code", "y"), ("code", "a")]]), False)

    def test_how_a_board_came_there_makes_no_difference(self):
        board = Board(LAYOUT)
        send(board, RECORD)
        other = Board(LAYOUT)
        other.clock(-5)
        other.down(1, 0)
        other.undo()
        send(other, RECORD[:2])
        other.clock(2)
        other.up(1, 2)
        other.up(2, 3)
        other.up(0, 4)
        self.assertTrue(board == other == Board.of(LAYOUT, RECORD) == board.fork())

    def test_now_none_and_some_tick(self):
        board, other = Board(LAYOUT), Board(LAYOUT)
        other.clock(0)
        self.assertIs(board == other, False)
        other.undo()
        self.assertIs(board == other, True)

    def test_other_values(self):
        board = Board(LAYOUT)
        for value in OTHER_KINDS + [LAYOUT, [], board.record, Board]:
            with self.subTest(value=value):
                self.assertIs(board == value, False)
        self.assertIs(board == EqualToAll(), False)


class TestErrors(unittest.TestCase):
    def test_layouts(self):
        for layout, fields in ((None, (None, None)), ([["through"]], (0, 0)), ([], (None, None)),
                               ([["none"] * 11, ["none"] * 10 + ["bad"]], (1, 10))):
            for combos in (None, [], [None]):
                with self.assertRaises(InvalidLayout) as caught:
                    Board(layout, combos)
                self.assertEqual((caught.exception.layer, caught.exception.key), fields)

    def test_combos(self):
        for many in (11, 16):
            for combos in ([], COMBOS, [None], 0, False, ()):
                with self.assertRaises(TooLarge) as caught:
                    Board([["none"] * many], combos)
                self.assertEqual(caught.exception.limit, 10)
            Board([["none"] * many])
        for index, combos in (
            (None, ()), (None, tuple(COMBOS)), (None, 0), (None, False), (None, ""), (None, {}),
            (0, [None]), (1, COMBOS * 2), (None, COMBOS * 7), (0, [((0, 3), 3, "q")]),
        ):
            with self.assertRaises(InvalidCombos) as caught:
                Board(PLAIN, combos)
            self.assertEqual(caught.exception.index, index)
        Board([["none"] * 10], [((8, 9), 3, "q")])

    def test_keys_and_ticks(self):
        for combos in (None, COMBOS):
            board = Board(LAYOUT, combos)
            board.down(0, 0)
            board.clock(3)
            before = state(board)
            for key in OTHER_KINDS + [3, -1, 16, 10 ** 30, [0], (0,), "0"]:
                if key in (0, 1) and isinstance(key, int) and not isinstance(key, bool):
                    continue
                for call in (board.down, board.up):
                    for tick in (3, 9, 2, None):
                        with self.subTest(key=key, tick=tick), self.assertRaises(InvalidKey):
                            call(key, tick)
            for tick in OTHER_KINDS + [2, -5, -10 ** 30, [9], (9,), "9", 9.0]:
                for call in (lambda: board.down(1, tick), lambda: board.down(0, tick),
                             lambda: board.up(0, tick), lambda: board.up(1, tick),
                             lambda: board.clock(tick)):
                    with self.subTest(tick=tick), self.assertRaises(InvalidTick):
                        call()
            self.assertEqual(state(board), before)
            self.assertEqual(len(board.fork().record), 1)
            board.undo()
            board.undo()
            with self.assertRaises(NothingToUndo):
                board.undo()

    def test_any_tick_is_right_for_a_new_board(self):
        for tick in (-10 ** 30, -1, 0, 10 ** 30):
            for name, args in (("clock", (tick,)), ("down", (0, tick)), ("up", (0, tick))):
                board = Board(LAYOUT)
                self.assertEqual(getattr(board, name)(*args), [])
                self.assertEqual(board.now, tick)
                with self.assertRaises(InvalidTick):
                    board.clock(tick - 1)


class TestLists(unittest.TestCase):
    def test_passed_lists_that_are_changed_later(self):
        layout, combos, record = copy.deepcopy(LAYOUT), list(COMBOS), list(RECORD[:2])
        board, other = Board(layout, combos), Board.of(layout, record)
        layout[0][1] = "none"
        layout[1].append("none")
        layout.pop()
        combos.append("changed")
        record.clear()
        self.assertTrue(board == Board(LAYOUT, COMBOS))
        self.assertTrue(other == Board.of(LAYOUT, RECORD[:2]))
        self.assertEqual(send(board, [(0, 0, "down"), (2, 1, "down"), (3, 2, "down")]),
                         [[], [(2, "press", "q")], []])
        self.assertEqual(other.clock(9), [(5, "press", "1")])
        self.assertEqual(board.fork().down(2, 3), [])

    def test_changing_a_returned_list_changes_nothing(self):
        board = Board(LAYOUT)
        for tick, key, way in RECORD:
            getattr(board, way)(key, tick).append("changed")
        board.clock(9).append("changed")
        before = copy.deepcopy(state(board))
        for value in (board.record, board.layers, board.codes):
            value.append("changed")
        self.assertEqual(state(board), before)
        board.record.clear()
        self.assertTrue(board == board.fork())
        self.assertEqual(board.record, RECORD)

    def test_returned_lists_are_new(self):
        board = Board(LAYOUT)
        send(board, RECORD)
        for name in ("record", "layers", "codes"):
            self.assertIsNot(getattr(board, name), getattr(board, name))
        self.assertIsNot(board.fork().record, board.record)

    def test_a_board_does_not_change_what_it_was_passed(self):
        layout, combos, record = copy.deepcopy(LAYOUT), list(COMBOS), list(RECORD)
        board = Board(layout, combos)
        send(board, RECORD)
        Board.of(layout, record).clock(50)
        self.assertEqual((layout, combos, record), (LAYOUT, COMBOS, RECORD))


def some_calls(seed, times):
    """Layouts with combos (None at times) and calls on boards of them."""
    chance = random.Random(seed)
    for _ in range(times):
        layout = models.some_layout(chance)
        many = len(layout[0])
        combos = chance.choice([None, [], combo_models.some_combos(chance, many),
                                combo_models.some_combos(chance, many)])
        tick, calls = chance.randint(-5, 5), []
        for _ in range(chance.randint(0, 14)):
            tick += chance.choice((0, 0, 1, 1, 2, 4, 9))
            name = chance.choice(("down", "down", "down", "up", "up", "clock"))
            key = chance.randrange(many)
            calls.append((name, (tick,) if name == "clock" else (key, tick)))
        yield layout, combos, calls


class TestAgainstTheModel(unittest.TestCase):
    def test_what_comes_out_and_the_state_behind_each_call(self):
        for layout, combos, calls in some_calls(71, 800):
            many = len(layout[0])
            both = with_combos(layout, combos or [])
            board, out, record, held = Board(layout, combos), [], [], []
            for name, args in calls:
                out += getattr(board, name)(*args)
                now = args[-1]
                if name != "clock" and args[0] in held:
                    record.append((now, args[0], "up"))
                if name == "down":
                    record.append((now, args[0], "down"))
                if name != "clock":
                    held = [key for key in held if key != args[0]] + [args[0]] * (name == "down")
                passed = gated(many, combos or [], record)
                self.assertEqual(out, [o for o in outputs(both, passed) if o[0] <= now])
                self.assertEqual((board.record, board.now, len(board)), (record, now, len(record)))
                self.check_waiting(board, both, combos or [], record, passed, now)

    def check_waiting(self, board, both, combos, record, passed, now):
        gate = combo_models.Gate(len(both[0]) - len(combos), combos, record).run()
        downs = [number for number, event in enumerate(record) if event[2] == "down"]
        left = [number for tick, numbers, index in gate.left if tick <= now for number in numbers]
        come = [event for event in passed if event[0] <= now]
        row = waiting_at(both, come, now)
        self.assertEqual(board.waiting, len(downs) - len(left) + len(row))
        done = come[:len(come) - len(row)]
        whats = [meaning and meaning[2] for meaning in models.meanings(both, come)][:len(done)]
        layers = [layer for layer in range(len(both)) if models.is_on(done, whats, layer)]
        self.assertEqual(board.layers, layers)
        given = [models.output_of(done, whats, at) for at in range(len(done))]
        codes = sorted({output[1] for output in given if output})
        self.assertEqual(board.codes, [
            code for code in codes if given.count(("press", code)) > given.count(("release", code))
        ])

    def test_a_board_behind_a_record_is_that_of_the_record(self):
        for layout, record in models.some_plays(72, 500):
            board = Board(layout)
            out = sum(send(board, record), [])
            self.assertEqual(out + board.fork().clock(FAR), outputs(layout, record))
            self.assertTrue(board == Board.of(layout, record))
            self.assertEqual(state(board), state(Board.of(layout, record)))


if __name__ == "__main__":
    unittest.main()
