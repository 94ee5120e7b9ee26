import unittest

from holdtap.board import outputs
from holdtap.combos import gated, is_combos, pieces, with_combos
from holdtap.errors import InvalidCombos, InvalidKey, InvalidLayout, InvalidRecord, TooLarge
from holdtap.layouts import greatest_time, is_layout, key_count
from holdtap.playing import codes_down, flat
from holdtap.records import ended, is_record, is_whole
from tests import combo_models, models
from tests.any_values import OTHER_KINDS, EqualToAll

COMBOS = [((0, 1), 3, "q"), ((0, 1, 2), 9, "w")]
FAR = 10 ** 15


def downs(*pairs):
    return [(tick, key, "down") for tick, key in pairs]


def ups(*pairs):
    return [(tick, key, "up") for tick, key in pairs]


RECORDS = [
    downs((0, 0), (2, 1)) + ups((11, 1), (12, 0)),
    downs((0, 0), (5, 1)),
    downs((0, 0), (1, 2), (2, 1)) + ups((3, 2), (4, 0), (4, 1)),
]


class TestExamples(unittest.TestCase):
    def test_pieces(self):
        found = [pieces(3, COMBOS, record) for record in RECORDS]
        self.assertEqual(found, [[[0, 1]], [[0], [1]], [[0, 1, 2]]])

    def test_gated(self):
        self.assertEqual([gated(3, COMBOS, record) for record in RECORDS], [
            [(9, 3, "down"), (11, 3, "up")], [(9, 0, "down"), (14, 1, "down")],
            [(2, 4, "down"), (3, 4, "up")],
        ])

    def test_with_combos(self):
        layout = [[("code", "x"), ("code", "y"), ("code", "z")], ["through", ("code", "1"), "through"]]
        self.assertEqual(with_combos(layout, COMBOS), [
            [("code", code) for code in "xyzqw"], ["through", ("code", "1")] + ["through"] * 3,
        ])


class TestIsCombos(unittest.TestCase):
    def assert_combos(self, value, many=3):
        self.assertIs(is_combos(value, many), True)
        self.assertEqual(gated(many, value, []), [])
        self.assertEqual(pieces(many, value, []), [])
        self.assertEqual(key_count(with_combos([["none"] * many], value)), many + len(value))

    def assert_no_combos(self, index, value, many=3):
        self.assertIs(is_combos(value, many), False)
        for call in (
            lambda: pieces(many, value, []), lambda: gated(many, value, []),
            lambda: pieces(many, value, None), lambda: gated(many, value, None),
            lambda: with_combos([["none"] * many], value),
        ):
            with self.assertRaises(InvalidCombos) as caught:
                call()
            self.assertEqual(caught.exception.index, index)
            self.assertNotIsInstance(caught.exception.index, bool)

    def test_no_combos(self):
        for many in range(1, 11):
            self.assert_combos([], many)

    def test_how_many_keys_the_board_has(self):
        for many in range(1, 11):
            last = [((0, many - 1), 1, "q")]
            if many == 1:
                self.assert_no_combos(0, last, many)
            else:
                self.assert_combos(last, many)
            self.assert_no_combos(0, [((0, many), 1, "q")], many)

    def test_wrong_numbers_of_keys(self):
        for many in OTHER_KINDS + [11, -1, 10 ** 30, [3], (3,), "3"]:
            if many == 1 and isinstance(many, int) and not isinstance(many, bool):
                continue
            for call in (
                lambda: is_combos([], many), lambda: is_combos(None, many),
                lambda: pieces(many, None, None), lambda: gated(many, None, None),
                lambda: pieces(many, [], []), lambda: gated(many, [], []),
            ):
                with self.subTest(many=many), self.assertRaises(InvalidKey):
                    call()

    def test_2_and_3_keys(self):
        for keys in ((0, 1), (0, 2), (1, 2), (0, 1, 2)):
            self.assert_combos([(keys, 5, "q")])
        for keys in (
            (), (0,), (0, 1, 2, 3), (0, 0), (1, 0), (0, 2, 1), (0, 1, 1), (0, 0, 1), (2, 1, 0),
            (-1, 0), (0, 3), (0, 10 ** 30), (0, True), (False, 1), (0, 1.0), ("0", "1"), (None, 1),
            (0, None), [0, 1], [0, 1, 2], ((0, 1),), (0, (1,)), (EqualToAll(), 1), (0, EqualToAll()),
            "01", {0: 1},
        ):
            with self.subTest(keys=keys):
                self.assert_no_combos(0, [(keys, 5, "q")], 3)
        self.assert_combos([((7, 8, 9), 1, "q")], 10)
        self.assert_no_combos(0, [((6, 7, 8, 9), 1, "q")], 10)

    def test_times(self):
        for time in (1, 2, 10 ** 9 - 1, 10 ** 9):
            self.assert_combos([((0, 1), time, "q")])
        for time in (0, -1, 10 ** 9 + 1, 10 ** 30, True, 1.0, "1", None, (1,), [1], EqualToAll()):
            with self.subTest(time=time):
                self.assert_no_combos(0, [((0, 1), time, "q")])

    def test_codes(self):
        for code in ("q", "0", "abcdefgh", "01234567", "a1"):
            self.assert_combos([((0, 1), 5, code)])
        for code in ("", "abcdefghi", "Q", "q ", "-", "\n", None, 1, b"q", ["q"], ("q",), EqualToAll()):
            with self.subTest(code=code):
                self.assert_no_combos(0, [((0, 1), 5, code)])

    def test_how_many_combos(self):
        pairs = [(a, b) for a in range(4) for b in range(a + 1, 4)]
        six = [(keys, 5, "q") for keys in pairs]
        for many in range(7):
            self.assert_combos(six[:many], 4)
        self.assert_no_combos(None, six + [((0, 1, 2), 5, "q")], 4)
        self.assert_no_combos(None, [None] * 7)
        self.assert_no_combos(0, [None] * 6)

    def test_the_same_keys_twice(self):
        self.assert_no_combos(1, [((0, 1), 5, "q"), ((0, 1), 5, "q")])
        self.assert_no_combos(2, [((0, 1), 5, "q"), ((0, 2), 5, "q"), ((0, 1), 9, "w"), None])
        self.assert_no_combos(2, [((0, 1, 2), 5, "q"), ((0, 1), 5, "q"), ((0, 1, 2), 6, "q")])
        self.assert_combos([((0, 1), 5, "q"), ((0, 2), 5, "q"), ((1, 2), 5, "q"), ((0, 1, 2), 5, "q")])

    def test_items_that_are_no_combos(self):
        good = ((0, 1), 5, "q")
        for item in OTHER_KINDS + [
            (), ((0, 1),), ((0, 1), 5), ((0, 1), 5, "q", 0), [(0, 1), 5, "q"], (5, (0, 1), "q"),
            ((0, 1), "q", 5), (0, 1, 5, "q"),
        ]:
            with self.subTest(item=item):
                self.assert_no_combos(0, [item])
                self.assert_no_combos(1, [good, item, item])
                self.assert_no_combos(1, [good, item, good])

    def test_values_that_are_no_lists(self):
        for value in OTHER_KINDS + [tuple(COMBOS), (), COMBOS[0], {0: COMBOS[0]}, iter(COMBOS)]:
            with self.subTest(value=value):
                self.assert_no_combos(None, value)


class TestErrors(unittest.TestCase):
    def test_records(self):
        for index, record in (
            (None, None), (None, tuple(RECORDS[0])), (None, [None] * 401), (0, [None]), (0, ups((0, 0))),
            (0, downs((0, 3))), (1, downs((0, 0), (0, 3))), (1, downs((0, 0), (0, 0), (0, 3))),
            (1, downs((0, 0), (-1, 1))), (1, downs((0, 0), (0, 10 ** 30))),
            (2, downs((0, 0), (0, 1), (0, 4))),
        ):
            for call in (pieces, gated):
                for combos in ([], COMBOS):
                    with self.subTest(record=record), self.assertRaises(InvalidRecord) as caught:
                        call(3, combos, record)
                    self.assertEqual(caught.exception.index, index)

    def test_the_errors_in_their_order(self):
        for call in (pieces, gated):
            with self.assertRaises(InvalidKey):
                call(0, [None], [None])
            with self.assertRaises(InvalidCombos):
                call(3, [None], [None])
            with self.assertRaises(InvalidRecord):
                call(3, [], [None])

    def test_with_combos(self):
        for layout, fields in (
            (None, (None, None)), ([["through"]], (0, 0)), ([["none"] * 17], (None, None)),
            ([["none"] * 11, ["none"] * 10 + ["bad"]], (1, 10)),
        ):
            with self.assertRaises(InvalidLayout) as caught:
                with_combos(layout, None)
            self.assertEqual((caught.exception.layer, caught.exception.key), fields)
        for many in (11, 16):
            for combos in ([], None, COMBOS, [None]):
                with self.assertRaises(TooLarge) as caught:
                    with_combos([["none"] * many], combos)
                self.assertEqual(caught.exception.limit, 10)
        with self.assertRaises(InvalidCombos) as caught:
            with_combos([["none"] * 10], [((0, 9), 1, "q"), ((0, 10), 1, "q")])
        self.assertEqual(caught.exception.index, 1)

    def test_the_most_keys_with_combos(self):
        combos = [((0, key), 5, "q" + str(key)) for key in range(1, 7)]
        joined = with_combos([["none"] * 10, ["through"] * 10], combos)
        self.assertIs(is_layout(joined), True)
        self.assertEqual(joined, [["none"] * 10 + [("code", combo[2]) for combo in combos],
                                  ["through"] * 16])
        self.assertEqual(with_combos([["none"] * 10], []), [["none"] * 10])


class TestPieces(unittest.TestCase):
    def check(self, combos, record, cut, out, many=4):
        with self.subTest(combos=combos, record=record):
            self.assertEqual(pieces(many, combos, record), cut)
            self.assertEqual(gated(many, combos, record), out)

    def test_the_last_down_one_tick_ahead_of_the_end_and_at_it(self):
        two = [((0, 1), 3, "q")]
        for start in (-FAR, -2, 0, FAR):
            record = downs((start, 1), (start + 2, 0))
            self.check(two, record, [[0, 1]], [(start + 2, 4, "down")])
            late = downs((start, 1), (start + 3, 0))
            self.check(two, late, [[0], [1]], [(start + 3, 1, "down"), (start + 6, 0, "down")])
        three = [((0, 1, 2), 5, "w")]
        self.check(three, downs((0, 2), (4, 0), (4, 1)), [[0, 1, 2]], [(4, 4, "down")])
        self.check(three, downs((0, 2), (4, 0), (5, 1)), [[0], [1], [2]],
                   [(5, 2, "down"), (9, 0, "down"), (10, 1, "down")])

    def test_a_time_of_one_tick_and_the_greatest_one(self):
        one = [((0, 1), 1, "q")]
        self.check(one, downs((7, 0), (7, 1)), [[0, 1]], [(7, 4, "down")])
        self.check(one, downs((7, 0), (8, 1)), [[0], [1]], [(8, 0, "down"), (9, 1, "down")])
        great = [((0, 1), 10 ** 9, "q")]
        self.check(great, downs((7, 0), (6 + 10 ** 9, 1)), [[0, 1]], [(6 + 10 ** 9, 4, "down")])
        self.check(great, downs((7, 0), (7 + 10 ** 9, 1)), [[0], [1]],
                   [(7 + 10 ** 9, 0, "down"), (7 + 2 * 10 ** 9, 1, "down")])

    def test_the_keys_in_any_order(self):
        for first, second, third in ((0, 1, 2), (0, 2, 1), (1, 0, 2), (1, 2, 0), (2, 0, 1), (2, 1, 0)):
            self.check([((0, 1, 2), 5, "w")], downs((0, first), (1, second), (2, third)),
                       [[0, 1, 2]], [(2, 4, "down")])

    def test_a_combo_within_another_one(self):
        self.check(COMBOS, downs((0, 0), (1, 1)), [[0, 1]], [(9, 4, "down")])
        self.check(COMBOS, downs((0, 0), (1, 1), (8, 2)), [[0, 1, 2]], [(8, 5, "down")])
        self.check(COMBOS, downs((0, 0), (1, 1), (9, 2)), [[0, 1], [2]], [(9, 4, "down"), (18, 2, "down")])
        self.check(COMBOS, downs((0, 0), (1, 1), (8, 3)), [[0, 1], [2]], [(8, 4, "down"), (8, 3, "down")])
        self.check(COMBOS, downs((0, 0), (5, 1), (8, 2)), [[0, 1, 2]], [(8, 5, "down")])
        self.check(COMBOS, downs((0, 0), (5, 1), (9, 2)), [[0], [1], [2]],
                   [(9, 0, "down"), (14, 1, "down"), (18, 2, "down")])
        self.check(COMBOS, downs((0, 0), (1, 2)), [[0], [1]], [(9, 0, "down"), (10, 2, "down")])

    def test_the_greatest_combo_may_have_the_shortest_time(self):
        combos = [((0, 1, 2), 2, "w"), ((0, 1), 6, "q")]
        self.check(combos, downs((0, 0), (1, 1), (1, 2)), [[0, 1, 2]], [(1, 4, "down")])
        self.check(combos, downs((0, 0), (1, 1), (2, 2)), [[0, 1], [2]],
                   [(2, 5, "down"), (4, 2, "down")])
        self.check(combos, downs((0, 0), (3, 1)), [[0, 1]], [(3, 5, "down")])

    def test_combos_that_share_keys(self):
        combos = [((0, 1), 5, "q"), ((1, 2), 5, "r")]
        self.check(combos, downs((0, 1), (1, 2), (2, 0)), [[0, 1], [2]], [(1, 5, "down"), (7, 0, "down")])
        self.check(combos, downs((0, 1), (1, 0), (2, 2)), [[0, 1], [2]], [(1, 4, "down"), (7, 2, "down")])
        self.check(combos, downs((0, 0), (1, 2), (2, 1)), [[0], [1, 2]], [(1, 0, "down"), (2, 5, "down")])

    def test_a_row_that_is_cut_into_several_pieces(self):
        combos = [((0, 1, 2), 9, "w"), ((1, 2), 3, "q"), ((2, 3), 9, "r")]
        self.check(combos, downs((0, 0), (1, 1), (2, 3)), [[0], [1], [2]],
                   [(2, 0, "down"), (2, 1, "down"), (11, 3, "down")])
        self.check(combos, downs((0, 0), (1, 2), (2, 3)), [[0], [1, 2]], [(2, 0, "down"), (2, 6, "down")])
        self.check(combos, downs((0, 0), (2, 1)) + ups((3, 0)), [[0], [1]],
                   [(3, 0, "down"), (3, 1, "down"), (3, 0, "up")])

    def test_pieces_leave_late_and_are_cut_by_the_ticks_of_their_downs(self):
        combos = [((0, 1), 2, "q"), ((0, 1, 2), 9, "w")]
        self.check(combos, downs((0, 0), (1, 1)) + ups((8, 1)), [[0, 1]], [(8, 4, "down"), (8, 4, "up")])
        self.check(combos, downs((0, 0), (2, 1)) + ups((8, 1)), [[0], [1]],
                   [(8, 0, "down"), (8, 1, "down"), (8, 1, "up")])
        self.check(combos, downs((0, 0), (1, 1), (8, 3)), [[0, 1], [2]], [(8, 4, "down"), (8, 3, "down")])

    def test_other_keys_may_be_down_already(self):
        combos = [((0, 1), 5, "q")]
        record = downs((0, 0)) + ups((1, 0)) + downs((2, 0), (3, 1)) + ups((4, 0)) + downs((6, 0))
        self.check(combos, record, [[0], [2, 3], [5]], [
            (1, 0, "down"), (1, 0, "up"), (3, 4, "down"), (4, 4, "up"), (11, 0, "down"),
        ])

    def test_an_up_ends_a_run(self):
        combos = [((0, 1), 5, "q")]
        record = downs((0, 2), (1, 0)) + ups((1, 2)) + downs((1, 1)) + ups((1, 1), (9, 0))
        self.check(combos, record, [[0], [1], [3]], [
            (0, 2, "down"), (1, 0, "down"), (1, 2, "up"), (1, 1, "down"), (1, 1, "up"), (9, 0, "up"),
        ])

    def test_equal_ticks(self):
        record = downs((5, 2), (5, 0), (5, 1)) + ups((5, 0), (5, 1), (5, 2))
        self.check([((0, 1), 1, "q")], record, [[0], [1, 2]], [
            (5, 2, "down"), (5, 4, "down"), (5, 4, "up"), (5, 2, "up"),
        ])

    def test_without_combos(self):
        for many, record in ((1, []), (4, RECORDS[0]), (4, RECORDS[1]), (10, downs((0, 9), (0, 0)))):
            self.check([], record, [[n] for n, event in enumerate(record) if event[2] == "down"],
                       record, many)
            self.assertIsNot(gated(many, [], record), record)

    def test_10_keys_at_once(self):
        combos = [((key, key + 1), 5, "q" + str(key)) for key in range(0, 10, 2)] + [((1, 2, 3), 5, "w")]
        record = downs(*[(0, key) for key in range(10)])
        self.check(combos, record, [[at, at + 1] for at in range(0, 10, 2)],
                   [(0, 10 + at, "down") for at in range(5)], 10)

    def test_200_events(self):
        record = [(at // 4, at % 2, "up" if at % 4 > 1 else "down") for at in range(200)]
        self.check([((0, 1), 1, "q")], record, [[at, at + 1] for at in range(0, 200, 4)],
                   [(at // 2, 4, "up" if at % 2 else "down") for at in range(100)])


class TestUps(unittest.TestCase):
    THREE = [((0, 1, 2), 5, "w")]

    def test_the_ups_of_a_combo_in_each_order(self):
        for first, second, third in ((0, 1, 2), (0, 2, 1), (1, 0, 2), (1, 2, 0), (2, 0, 1), (2, 1, 0)):
            record = downs((0, 0), (1, 1), (2, 2)) + ups((4, first), (5, second), (6, third))
            self.assertEqual(gated(3, self.THREE, record), [(2, 3, "down"), (4, 3, "up")])

    def test_only_the_ups_of_the_presses_in_the_combo_vanish(self):
        record = downs((0, 0), (0, 1), (0, 2)) + ups((1, 0)) + downs((2, 0)) + ups((3, 0), (4, 1))
        record = record + downs((5, 1)) + ups((6, 1), (7, 2)) + downs((8, 2)) + ups((9, 2))
        self.assertEqual(gated(3, self.THREE, record), [
            (0, 3, "down"), (1, 3, "up"), (3, 0, "down"), (3, 0, "up"), (6, 1, "down"), (6, 1, "up"),
            (9, 2, "down"), (9, 2, "up"),
        ])

    def test_a_combo_twice(self):
        two = [((0, 1), 3, "q")]
        record = downs((0, 0), (0, 1)) + ups((1, 0), (2, 1)) + downs((3, 1), (4, 0)) + ups((5, 0), (6, 1))
        self.assertEqual(gated(2, two, record), [
            (0, 2, "down"), (1, 2, "up"), (4, 2, "down"), (5, 2, "up"),
        ])

    def test_the_up_of_a_key_in_the_row(self):
        self.assertEqual(gated(3, self.THREE, downs((0, 0), (1, 1)) + ups((2, 1), (9, 0))), [
            (2, 0, "down"), (2, 1, "down"), (2, 1, "up"), (9, 0, "up"),
        ])

    def test_the_up_of_another_key(self):
        record = downs((0, 3), (1, 0), (2, 1)) + ups((3, 3)) + downs((3, 2))
        self.assertEqual(gated(4, self.THREE, record), [
            (0, 3, "down"), (3, 0, "down"), (3, 1, "down"), (3, 3, "up"), (8, 2, "down"),
        ])

    def test_an_up_at_the_tick_at_which_the_row_is_over(self):
        record = downs((0, 0)) + ups((5, 0))
        self.assertEqual(gated(3, self.THREE, record), [(5, 0, "down"), (5, 0, "up")])
        later = downs((0, 0)) + ups((6, 0))
        self.assertEqual(gated(3, self.THREE, later), [(5, 0, "down"), (6, 0, "up")])


class TestAgainstTheModel(unittest.TestCase):
    def test_pieces_and_what_leaves(self):
        for many, combos, record in combo_models.some_gates(60, 3000):
            with self.subTest(many=many, combos=combos, record=record):
                cut = combo_models.pieces(combos, record)
                gate = combo_models.Gate(many, combos, record).run()
                self.assertEqual(pieces(many, combos, record), [numbers for numbers, index in cut])
                self.assertEqual([(numbers, index) for tick, numbers, index in gate.left], cut)
                self.assertEqual(gated(many, combos, record), gate.out)

    def test_what_leaves_is_a_record(self):
        for many, combos, record in combo_models.some_gates(61, 1000):
            out = gated(many, combos, record)
            self.assertIs(is_record(out), True)
            self.assertTrue(all(event[1] < many + len(combos) for event in out))
            self.assertEqual(gated(many, [], record), record)
            closed = ended(record)
            self.assertIs(is_whole(gated(many, combos, closed)), True)

    def test_no_event_is_done_too_late(self):
        for many, combos, record in combo_models.some_gates(62, 500):
            late = max([combo[1] for combo in combos], default=0)
            for tick, numbers, index in combo_models.Gate(many, combos, record).run().left:
                self.assertTrue(all(tick <= record[number][0] + late for number in numbers))
            downs_out = [event[0] for event in gated(many, combos, record) if event[2] == "down"]
            for event, cut in zip(downs_out, pieces(many, combos, record)):
                self.assertTrue(record[cut[-1]][0] <= event <= record[cut[0]][0] + late)

    def test_behind_a_whole_record_no_code_is_down(self):
        chance = models.random.Random(63)
        for _ in range(300):
            layout = models.some_layout(chance)
            many = len(layout[0])
            combos = combo_models.some_combos(chance, many)
            record = ended(models.some_record(chance, many, 10))
            both, out = with_combos(layout, combos), gated(many, combos, record)
            self.assertEqual(codes_down(both, out), [])
            self.assertEqual([output[1:] for output in outputs(both, out)], flat(both, out))
            self.assertEqual(greatest_time(both), greatest_time(layout))


if __name__ == "__main__":
    unittest.main()
