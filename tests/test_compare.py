import random
import unittest

from holdtap.compare import idle_times, parting_record, same_layouts, unused_layers, unused_places
from holdtap.layouts import duals
from holdtap.playing import layers_on, meanings, played
from holdtap.records import is_record, is_whole
from tests import models
from tests.samples import NO_LAYOUTS, dual, error_of
from tests.small_models import parting, some_change, some_small_layout, whole_records

QUICK = [[("dual", "a", ("layer", 1), 3, "time"), ("code", "x")], ["through", ("code", "1")]]
SLOW = [[("dual", "a", ("layer", 1), 4, "time"), ("code", "x")], ["through", ("code", "1")]]
# Numbers of keys, layers, the greatest time, and how many events all records are tried with.
SIZES = [
    (1, 2, 4, 6), (2, 2, 4, 4), (2, 3, 2, 6), (3, 2, 2, 4), (2, 2, 1, 6), (3, 3, 1, 4), (2, 3, 4, 4), (1, 3, 3, 6),
]


def with_time(layout, layer, key, time):
    changed = [list(row) for row in layout]
    changed[layer][key] = changed[layer][key][:3] + (time,) + changed[layer][key][4:]
    return changed


class TestSame(unittest.TestCase):
    def assert_same(self, layout, other):
        self.assertIs(same_layouts(layout, other), True)
        self.assertIs(same_layouts(other, layout), True)
        self.assertIsNone(parting_record(layout, other))

    def assert_parted(self, layout, other, many):
        """Both ways, by a record of so many events."""
        for one, two in ((layout, other), (other, layout)):
            self.assertIs(same_layouts(one, two), False)
            found = parting_record(one, two)
            self.assertIs(type(found), list)
            self.assertTrue(is_record(found) and is_whole(found))
            self.assertTrue(all(abs(tick) <= 10 ** 15 and key < len(layout[0]) for tick, key, way in found))
            self.assertNotEqual(played(one, found), played(two, found))
            self.assertEqual(len(found), many)

    def test_the_examples(self):
        self.assert_same(QUICK, QUICK)
        self.assert_parted(QUICK, SLOW, 2)

    def test_an_action_that_is_taken_and_one_that_is_not(self):
        layout = [[("code", "x"), ("layer", 1)], [("code", "y"), "none"], [("code", "z"), "none"]]
        self.assert_parted(layout, [layout[0], [("code", "a"), "none"], layout[2]], 4)
        self.assert_same(layout, [layout[0], layout[1], [("code", "a"), ("lock", 1)]])
        self.assert_same(layout, [layout[0], [("code", "y"), ("lock", 2)], layout[2]])
        self.assert_same(layout, layout[:2])
        self.assert_parted(layout, [[("code", "y"), ("layer", 1)], layout[1]], 2)

    def test_none_and_through_and_what_gives_the_same(self):
        self.assert_same([["none"]], [[("layer", 1)], ["none"]])
        self.assert_same([[("code", "x")]], [[("code", "x")], ["through"], [("code", "y")]])
        self.assert_same([[("dual", "x", ("code", "x"), 3, "other")]], [[("code", "x")]])
        self.assert_same([[("once", 1), ("code", "x")], ["through", "through"]], [["none", ("code", "x")]])
        self.assert_parted([["none"]], [[("code", "x")]], 2)

    def test_times_that_differ_by_one(self):
        for rule in models.RULES:
            for time in (1, 2, 3):
                layout = [[dual(time, rule), ("code", "x")]]
                self.assert_parted(layout, [[dual(time + 1, rule), ("code", "x")]], 2)

    def test_rules(self):
        for first, second, many in (("time", "other", 4), ("time", "within", 4), ("other", "within", 4)):
            for time in (1, 4):
                self.assert_parted([[dual(time, first), "none"]], [[dual(time, second), "none"]], many)
        # With no other key there is nothing that the rules tell apart.
        self.assert_same([[dual(3, "time")]], [[dual(3, "other")]])
        self.assert_same([[dual(3, "within")]], [[dual(3, "other")]])

    def test_what_only_several_events_tell_apart(self):
        layout = [[("lock", 1), ("code", "x")], [("lock", 2), "through"], ["through", ("code", "y")]]
        self.assert_parted(layout, [layout[0], layout[1], ["through", "none"]], 6)
        once = [[("once", 1), ("code", "x")], [("once", 2), "through"], ["none", ("code", "y")]]
        self.assert_parted(once, [once[0], once[1], ["none", ("code", "x")]], 6)

    def test_locks(self):
        lock, layer = [[("lock", 1), ("code", "x")], ["through", ("code", "y")]], ("layer", 1)
        self.assert_parted(lock, [[layer, ("code", "x")], lock[1]], 4)
        # In layer 1 the key cannot be reached again, so a lock that is not taken back is the same.
        stuck = [[("lock", 1), ("code", "x")], [("lock", 1), ("code", "x")]]
        self.assert_same(stuck, [["none", ("code", "x")]])
        two = [[("lock", 1), ("lock", 2), ("code", "x")], ["through", "through", ("code", "y")],
               ["through", "through", ("code", "z")]]
        turned = [[("lock", 2), ("lock", 1), ("code", "x")], two[2], two[1]]
        self.assert_parted(two, turned, 6)
        alike = [two[0], two[1], two[1]]
        self.assert_same(alike, [turned[0], two[1], two[1]])

    def test_once(self):
        once = [[("once", 1), ("code", "x")], ["through", ("code", "y")]]
        self.assert_parted(once, [[("layer", 1), ("code", "x")], once[1]], 4)
        self.assert_parted(once, [[("lock", 1), ("code", "x")], once[1]], 6)
        self.assert_same([[("once", 1)], [("once", 1)]], [["none"]])

    def test_a_difference_that_needs_ticks_between_events(self):
        layout = [[dual(2, hold=("layer", 1)), dual(4, "within", "c", ("layer", 2))],
                  ["through", ("code", "x")], [("code", "y"), "through"]]
        self.assert_parted(layout, [layout[0], layout[1], [("code", "z"), "through"]], 4)
        self.assert_parted(layout, [layout[0], [layout[1][0], ("code", "z")], layout[2]], 4)

    def test_the_codes_of_a_dual_that_is_never_a_hold_or_a_tap(self):
        layout = [[dual(4, "other", "a", ("layer", 1)), ("code", "x")], ["through", dual(3, "time", "b", ("code", "c"))]]
        changed = [layout[0], ["through", dual(3, "time", "b", ("code", "d"))]]
        self.assert_parted(layout, changed, 4)
        behind = [[dual(4, "other", "a", ("layer", 1))], [("code", "x")]]
        self.assert_same(behind, [behind[0], [("code", "y")]])

    def test_against_all_short_records(self):
        chance = random.Random(601)
        tried = {}
        for at in range(120):
            keys, layers, times, most = SIZES[at % len(SIZES)]
            layout = some_small_layout(chance, keys, layers, times)
            other = some_change(chance, layout, times)
            if chance.random() < 0.3:
                other = some_change(chance, other, times)
            many = parting(layout, other, most, times)
            with self.subTest(layout=layout, other=other):
                if many is not None:
                    self.assert_parted(layout, other, many)
                else:
                    found = parting_record(layout, other)
                    self.assertTrue(found is None or len(found) > most)
                    if found is not None:
                        self.assert_parted(layout, other, len(found))
                    self.assertIs(same_layouts(layout, other), found is None)
            tried[many] = tried.get(many, 0) + 1
        self.assertGreater(min(tried[many] for many in (2, 4, None)), 15)
        self.assertIn(6, tried)

    def test_equal_layouts_play_long_records_alike(self):
        chance = random.Random(602)
        alike = 0
        for _ in range(200):
            layout = some_small_layout(chance, 3, 3)
            other = some_change(chance, layout)
            if other != layout and same_layouts(layout, other):
                alike += 1
                for _ in range(30):
                    record = models.some_record(chance, 3, 16)
                    self.assertEqual(played(layout, record), played(other, record))
        self.assertGreater(alike, 20)


class TestUnused(unittest.TestCase):
    def test_the_example(self):
        layers = [[("layer", 1), ("code", "x")], [("code", "y"), ("code", "1")], [("code", "z"), "through"]]
        self.assertEqual([unused_layers(layers), unused_places(layers)], [[2], [(1, 0), (2, 0)]])

    def test_one_layer(self):
        self.assertEqual([unused_layers([["none"]]), unused_places([["none"]])], [[], []])

    def test_locks_and_once(self):
        layout = [[("lock", 1), ("code", "x")], ["through", ("once", 2)], [("code", "y"), "none"]]
        self.assertEqual([unused_layers(layout), unused_places(layout)], [[], []])
        layout = [[("once", 1), ("code", "x")], [("lock", 2), "none"], ["none", ("code", "y")]]
        self.assertEqual([unused_layers(layout), unused_places(layout)], [[], []])
        layout = [[("lock", 1), ("once", 2)], [("code", "y"), "through"], ["through", "through"]]
        self.assertEqual([unused_layers(layout), unused_places(layout)], [[], []])
        layout = [[("lock", 2), "none"], [("once", 1), "none"], [("lock", 2), "through"]]
        self.assertEqual([unused_layers(layout), unused_places(layout)], [[1], [(1, 0), (1, 1)]])

    def test_a_layer_that_is_on_only_behind_events_without_a_down_in_it(self):
        self.assertEqual(unused_layers([[("layer", 1)], [("code", "x")]]), [])
        self.assertEqual(unused_places([[("layer", 1)], [("code", "x")]]), [(1, 0)])

    def test_behind_duals(self):
        held = [[dual(4, hold=("layer", 1)), "none"], ["none", ("code", "x")]]
        self.assertEqual([unused_layers(held), unused_places(held)], [[], [(1, 0)]])
        for rule in models.RULES:
            layout = [[dual(1, rule, hold=("layer", 1)), "none"], ["through", ("code", "x")]]
            self.assertEqual([unused_layers(layout), unused_places(layout)], [[], []])
        two = [[dual(4, "other", hold=("layer", 1)), dual(4, "other", hold=("layer", 2))],
               ["through", "none"], ["none", "through"]]
        self.assertEqual([unused_layers(two), unused_places(two)], [[], []])

    def test_places_with_through_are_not_told(self):
        layout = [[("code", "x"), "none"], ["through", "through"], ["through", "none"]]
        self.assertEqual([unused_layers(layout), unused_places(layout)], [[1, 2], [(2, 1)]])

    def test_a_place_that_a_higher_layer_always_covers(self):
        layout = [[("layer", 2), ("code", "x")], ["through", "none"], [("once", 1), "none"]]
        self.assertEqual(unused_layers(layout), [1])
        self.assertEqual(unused_places(layout), [(1, 1), (2, 0)])
        layout = [[("once", 1), "none", ("lock", 2)], ["through", "none", "none"], ["none", "none", "none"]]
        self.assertEqual(unused_layers(layout), [])
        self.assertEqual(unused_places(layout), [])

    def test_against_records(self):
        chance = random.Random(611)
        told = 0
        for at in range(60):
            keys, layers, times, most = SIZES[at % len(SIZES)]
            layout = some_small_layout(chance, keys, layers, times)
            on, taken = {0}, set()
            records = list(whole_records(keys, 2, times)) + [
                models.some_record(chance, keys, 20, (0, 0, 1, 1, 2, 3, 4)) for _ in range(300)
            ]
            for record in records:
                for many in range(1, len(record) + 1):
                    if len(on) < layers:
                        on.update(layers_on(layout, record[:many]))
                for event, meaning in zip(record, meanings(layout, record)):
                    if meaning:
                        taken.add((meaning[0], event[1]))
            with self.subTest(layout=layout):
                self.assertEqual(unused_layers(layout), [layer for layer in range(layers) if layer not in on])
                self.assertEqual(unused_places(layout), [
                    (layer, key) for layer in range(layers) for key in range(keys)
                    if layout[layer][key] != "through" and (layer, key) not in taken
                ])
            told += len(unused_places(layout))
        self.assertGreater(told, 20)


class TestIdleTimes(unittest.TestCase):
    def test_the_example(self):
        duals_ = [[("dual", "a", ("code", "a"), 2, "time"), ("dual", "b", ("code", "c"), 2, "time")]]
        self.assertEqual(idle_times(duals_), [(0, 0)])

    def test_no_dual(self):
        self.assertEqual(idle_times([[("code", "x")], [("lock", 1)]]), [])

    def test_the_hold_is_the_code_of_the_tap(self):
        for rule in models.RULES:
            for time in (1, 4):
                self.assertEqual(idle_times([[dual(time, rule, "a", ("code", "a")), "none"]]), [(0, 0)])

    def test_a_place_that_is_not_taken(self):
        layout = [[dual(3), ("code", "x")], [dual(2), dual(2)]]
        self.assertEqual(idle_times(layout), [(1, 0), (1, 1)])

    def test_times_that_matter(self):
        for rule in models.RULES:
            for time in (1, 2, 3, 4):
                self.assertEqual(idle_times([[dual(time, rule), ("code", "x")]]), [])
                layout = [[dual(time, rule, hold=("layer", 1)), ("code", "x")], ["through", ("code", "y")]]
                self.assertEqual(idle_times(layout), [])

    def test_a_time_that_matters_only_in_a_higher_layer(self):
        layout = [[dual(3), ("lock", 1)], [dual(2, tap="c"), "through"]]
        self.assertEqual(idle_times(layout), [])
        layout = [[dual(3), ("code", "x")], [dual(2, tap="c"), "through"]]
        self.assertEqual(idle_times(layout), [(1, 0)])

    def test_against_its_words(self):
        chance = random.Random(621)
        told = {True: 0, False: 0}
        for at in range(60):
            keys, layers, times, most = SIZES[at % len(SIZES)]
            layout = some_small_layout(chance, keys, layers, times)
            idle = idle_times(layout)
            self.assertEqual(idle, sorted(idle))
            for layer, key in duals(layout):
                changed = [with_time(layout, layer, key, time) for time in (1, 2, 3, 4)]
                expected = all(same_layouts(layout, other) for other in changed)
                self.assertIs((layer, key) in idle, expected)
                if expected:
                    for other in changed:
                        self.assertIsNone(parting(layout, other, 2, 4))
                told[expected] += 1
        self.assertGreater(min(told.values()), 15)


class TestErrors(unittest.TestCase):
    SINGLE = [unused_layers, unused_places, idle_times]
    # Each passes one limit only, and is told with it.
    LARGE = [
        ([["none"] * 4], 3), ([[dual(4), dual(4), dual(4)]], 2), ([[dual(4), "none", "none"], ["none", dual(4), dual(4)]], 2),
        ([["none"] * 3] * 4, 3), ([[dual(5)]], 4), ([["none"], [dual(10 ** 9)]], 4),
    ]

    def test_layouts(self):
        for layout, fields in NO_LAYOUTS:
            error = ("InvalidLayout",) + fields
            for call in self.SINGLE:
                self.assertEqual(error_of(call, layout), error)
            for call in (same_layouts, parting_record):
                for other in (QUICK, [["none"] * 4], None, []):
                    self.assertEqual(error_of(call, layout, other), error)
                self.assertEqual(error_of(call, QUICK, layout), error)
                self.assertEqual(error_of(call, [["none"] * 4], layout), error)

    def test_another_number_of_keys(self):
        for call in (same_layouts, parting_record):
            for layout, other in (
                ([["none"]], [["none"] * 2]), ([["none"] * 2], [["none"]]), ([["none"] * 4], [["none"]]),
                ([["none"] * 4], [["none"] * 5]), ([[dual(9)]], [["none"] * 3] * 4),
            ):
                self.assertEqual(error_of(call, layout, other), ("InvalidLayout", None, None))

    def test_each_limit(self):
        for layout, limit in self.LARGE:
            for call in self.SINGLE:
                self.assertEqual(error_of(call, layout), ("TooLarge", limit))
            small = [["none"] * len(layout[0])]
            for call in (same_layouts, parting_record):
                self.assertEqual(error_of(call, layout, small), ("TooLarge", 3 if len(small[0]) > 3 else limit))
                self.assertEqual(error_of(call, small, layout), ("TooLarge", 3 if len(small[0]) > 3 else limit))

    def test_layouts_that_just_keep_to_the_limits(self):
        largest = [[dual(4), dual(4, hold=("layer", 2)), "none"], [dual(4), "none", "none"], ["none", dual(4), "through"]]
        for call in self.SINGLE:
            self.assertIsNone(error_of(call, largest))
        self.assertIs(same_layouts(largest, largest), True)

    def test_the_sequence_of_the_limits(self):
        everything = [[dual(5)] * 4] * 4
        self.assertEqual(error_of(unused_layers, everything), ("TooLarge", 3))
        self.assertEqual(error_of(unused_layers, [[dual(5)] * 3] * 4), ("TooLarge", 2))
        self.assertEqual(error_of(unused_layers, [[dual(5), dual(5), "none"]] * 4), ("TooLarge", 3))
        self.assertEqual(error_of(unused_layers, [[dual(5), dual(5), "none"]] * 3), ("TooLarge", 4))

    def test_the_first_layout_comes_ahead_of_the_second(self):
        many_duals, slow = [[dual(4)] * 3], [[dual(5), "none", "none"]]
        layers = [["none"] * 3] * 4
        for call in (same_layouts, parting_record):
            self.assertEqual(error_of(call, slow, many_duals), ("TooLarge", 4))
            self.assertEqual(error_of(call, many_duals, slow), ("TooLarge", 2))
            self.assertEqual(error_of(call, slow, layers), ("TooLarge", 4))
            self.assertEqual(error_of(call, layers, slow), ("TooLarge", 3))
            self.assertEqual(error_of(call, slow, slow), ("TooLarge", 4))


if __name__ == "__main__":
    unittest.main()
