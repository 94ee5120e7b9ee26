import random
import unittest

from holdtap.differences import holds, is_bounds, is_ring, least_difference, least_numbers, ring_of
from holdtap.errors import InvalidBounds, InvalidPlace
from tests.any_values import OTHER_KINDS, EqualToAll

BOUNDS = [(0, 1, 0), (1, 2, 5), (2, 3, 0), (3, 0, -7)]
TIGHT = BOUNDS[:3] + [(3, 0, -4)]
GREAT = 10 ** 40

WRONG_COUNTS = [value for value in OTHER_KINDS if value != 1 or not type(value) is int] + [
    51, -1, GREAT, [4], (4,), "4",
]
WRONG_BOUNDS = [
    (), (0,), (0, 1), (0, 1, 2, 3), [0, 1, 2], (-1, 0, 0), (0, -1, 0), (4, 0, 0), (0, 4, 0),
    (True, 0, 0), (0, True, 0), (0, 1, True), (0, 1, False), (0.0, 1, 0), (0, 1.0, 0), (0, 1, 1.0),
    ("0", 1, 0), (0, None, 0), (0, 1, None), (0, 1, "0"), (0, 1, (0,)), (GREAT, 0, 0),
    (EqualToAll(), 0, 0), (0, EqualToAll(), 0), (0, 1, EqualToAll()),
] + OTHER_KINDS


def greatest_sums(many, bounds):
    """For all i and j the greatest sum of a chain from i to j with at most so many bounds."""
    best = [[0 if i == j else None for j in range(many)] for i in range(many)]
    for i, j, d in bounds:
        if best[i][j] is None or d > best[i][j]:
            best[i][j] = d
    for over in range(many):
        for i in range(many):
            for j in range(many):
                if best[i][over] is not None and best[over][j] is not None:
                    longer = best[i][over] + best[over][j]
                    if best[i][j] is None or longer > best[i][j]:
                        best[i][j] = longer
    return best


def some_bounds(seed, times):
    chance = random.Random(seed)
    for _ in range(times):
        many = chance.randint(1, 7)
        low, high = chance.choice([(-4, 4), (-6, 1), (0, 5), (-10 ** 30, 10 ** 29)])
        yield many, [
            (chance.randrange(many), chance.randrange(many), chance.randint(low, high))
            for _ in range(chance.randint(0, 2 * many))
        ]


class TestExamples(unittest.TestCase):
    def test_least_numbers_and_holds(self):
        self.assertEqual(
            [least_numbers(4, BOUNDS), holds(4, BOUNDS, [1, 2, 7, 8]), holds(4, BOUNDS, [0, 0, 5, 8])],
            [[0, 0, 5, 5], True, False],
        )

    def test_rings(self):
        self.assertEqual(
            [least_numbers(4, TIGHT), is_ring(4, TIGHT, ring_of(4, TIGHT)), ring_of(4, TIGHT[:3])],
            [None, True, None],
        )
        self.assertEqual(
            [is_ring(4, TIGHT, value) for value in [[1, 2, 3, 0], [0, 1, 2], [0, 1, 2, 3, 0], []]],
            [True, False, False, False],
        )

    def test_least_difference(self):
        self.assertEqual(
            [least_difference(4, BOUNDS, 0, 3), least_difference(4, BOUNDS, 3, 1),
             least_difference(2, [], 0, 1)],
            [5, -7, None],
        )


class TestIsBounds(unittest.TestCase):
    def calls(self, many, bounds):
        return [
            lambda: least_numbers(many, bounds), lambda: ring_of(many, bounds),
            lambda: holds(many, bounds, None), lambda: is_ring(many, bounds, None),
            lambda: least_difference(many, bounds, 0, 0),
            lambda: least_difference(many, bounds, None, None),
        ]

    def assert_no_bounds(self, value, many=4):
        self.assertIs(is_bounds(value, many), False)
        for call in self.calls(many, value):
            with self.subTest(value=value), self.assertRaises(InvalidBounds):
                call()

    def test_bounds(self):
        for many, value in (
            (4, BOUNDS), (4, TIGHT), (4, []), (1, []), (50, []), (1, [(0, 0, 5)]), (1, [(0, 0, -GREAT)]),
            (50, [(49, 0, GREAT), (0, 49, -GREAT)]), (2, [(0, 1, 0)] * 400), (2, [(0, 1, 10 ** 899)]),
        ):
            self.assertIs(is_bounds(value, many), True)
            self.assertIs(holds(many, value, []), False)

    def test_how_many_numbers(self):
        for many in (1, 2, 49, 50):
            self.assertIs(is_bounds([(many - 1, 0, 1)], many), True)
            self.assert_no_bounds([(many, 0, 1)], many)
            self.assert_no_bounds([(0, many, 1)], many)
        for many in WRONG_COUNTS:
            for value in ([], None, [None], BOUNDS):
                self.assertIs(is_bounds(value, many), False)
                for call in self.calls(many, value):
                    with self.subTest(many=many, value=value), self.assertRaises(InvalidPlace):
                        call()

    def test_items_that_are_no_bounds(self):
        for item in WRONG_BOUNDS:
            self.assert_no_bounds([item])
            self.assert_no_bounds(BOUNDS + [item])
            self.assert_no_bounds([item] + BOUNDS)

    def test_values_that_are_no_lists(self):
        for value in OTHER_KINDS + [tuple(BOUNDS), (), set(BOUNDS), iter(BOUNDS), {0: BOUNDS[0]}]:
            self.assert_no_bounds(value)

    def test_more_than_400(self):
        self.assert_no_bounds([(0, 1, 0)] * 401)
        self.assert_no_bounds([(0, 1, 0)] * 500)


class TestHolds(unittest.TestCase):
    def test_numbers_on_both_sides_of_each_bound(self):
        for d in (-GREAT, -3, -1, 0, 1, 7, GREAT):
            for start in (-GREAT, -5, 0, 8):
                self.assertIs(holds(2, [(0, 1, d)], [start, start + d]), True)
                self.assertIs(holds(2, [(0, 1, d)], [start, start + d + 1]), True)
                self.assertIs(holds(2, [(0, 1, d)], [start, start + d - 1]), False)
        self.assertIs(holds(2, [(1, 0, 3)], [0, 3]), False)
        self.assertIs(holds(2, [(1, 0, 3)], [3, 0]), True)

    def test_all_bounds(self):
        self.assertIs(holds(3, [(0, 1, 1), (1, 2, 1), (0, 2, 3)], [0, 1, 3]), True)
        for numbers in ([0, 0, 3], [0, 1, 1], [0, 1, 2], [1, 2, 3]):
            self.assertIs(holds(3, [(0, 1, 1), (1, 2, 1), (0, 2, 3)], numbers), False)

    def test_a_bound_of_a_number_on_itself(self):
        self.assertIs(holds(1, [(0, 0, 0)], [5]), True)
        self.assertIs(holds(1, [(0, 0, -1)], [-5]), True)
        self.assertIs(holds(1, [(0, 0, 1)], [5]), False)

    def test_without_bounds(self):
        self.assertIs(holds(3, [], [-1, 5, -GREAT]), True)

    def test_other_values(self):
        for value in OTHER_KINDS + [
            [], [0], [0, 0, 0], [0, 1, 2, 3, 4], (0, 0, 5, 5), [0, 0, 5, 5.0], [0, 0, 5, True],
            [False, 0, 5, 5], [0, 0, 5, None], ["0", 0, 5, 5], [0, 0, 5, [5]], [0, 0, EqualToAll(), 5],
            [0] * 500,
        ]:
            with self.subTest(value=value):
                self.assertIs(holds(4, BOUNDS, value), False)
                self.assertIs(holds(4, [], value), False)


class TestLeastNumbers(unittest.TestCase):
    def test_without_bounds(self):
        for many in (1, 2, 50):
            self.assertEqual(least_numbers(many, []), [0] * many)
            self.assertIsNone(ring_of(many, []))

    def test_numbers_begin_at_0(self):
        self.assertEqual(least_numbers(2, [(0, 1, -5)]), [0, 0])
        self.assertEqual(least_numbers(2, [(1, 0, 5)]), [5, 0])
        self.assertEqual(least_numbers(3, [(2, 1, 5), (1, 0, -3)]), [2, 5, 0])

    def test_a_bound_of_a_number_on_itself(self):
        for d in (-GREAT, -1, 0):
            self.assertEqual(least_numbers(1, [(0, 0, d)]), [0])
            self.assertIsNone(ring_of(1, [(0, 0, d)]))
            self.assertEqual(least_difference(1, [(0, 0, d)], 0, 0), 0)
        for d in (1, GREAT):
            self.assertIsNone(least_numbers(1, [(0, 0, d)]))
            self.assertEqual(ring_of(1, [(0, 0, d)]), [0])
            self.assertIs(is_ring(1, [(0, 0, d)], [0]), True)
            self.assertIs(is_ring(1, [(0, 0, d)], [0] * 400), True)
            self.assertIs(is_ring(1, [(0, 0, d)], [0] * 401), False)
            with self.assertRaises(InvalidBounds):
                least_difference(1, [(0, 0, d)], 0, 0)

    def test_rings_at_0_and_at_1(self):
        for many in (2, 3, 10, 50):
            chain = [(at, at + 1, 2) for at in range(many - 1)]
            back = (many - 1, 0, 2 - 2 * many)
            self.assertEqual(least_numbers(many, chain + [back]), list(range(0, 2 * many, 2)))
            self.assertIsNone(ring_of(many, chain + [back]))
            tight = chain + [(many - 1, 0, 3 - 2 * many)]
            self.assertIsNone(least_numbers(many, tight))
            ring = ring_of(many, tight)
            self.assertEqual(sorted(ring), list(range(many)))
            self.assertIs(is_ring(many, tight, ring), True)

    def test_the_order_of_the_bounds_makes_no_difference(self):
        chain = [(at, at + 1, 1) for at in range(49)]
        for bounds in (chain, chain[::-1], chain[::2] + chain[1::2]):
            self.assertEqual(least_numbers(50, bounds), list(range(50)))
            self.assertIsNone(ring_of(50, bounds))
            self.assertIs(is_ring(50, bounds + [(49, 0, -48)], ring_of(50, bounds + [(49, 0, -48)])), True)
            self.assertEqual(least_difference(50, bounds, 0, 49), 49)

    def test_50_numbers_and_400_bounds(self):
        chance = random.Random(80)
        places = [chance.randint(0, 10 ** 30) for _ in range(50)]
        bounds = []
        for _ in range(400):
            i, j = chance.randrange(50), chance.randrange(50)
            bounds.append((i, j, places[j] - places[i] - chance.randint(0, 10 ** 20)))
        self.assertIs(holds(50, bounds, places), True)
        self.assertIsNone(ring_of(50, bounds))
        least = least_numbers(50, bounds)
        self.assertIs(holds(50, bounds, least), True)
        self.assertTrue(all(number <= place for number, place in zip(least, places)))
        i, j, d = bounds[0]
        broken = bounds[:-1] + [(j, i, 1 - d)]
        self.assertIsNone(least_numbers(50, broken))
        self.assertIs(is_ring(50, broken, ring_of(50, broken)), True)


class TestIsRing(unittest.TestCase):
    def test_any_bound_may_be_the_first(self):
        for ring in ([0, 1, 2, 3], [1, 2, 3, 0], [2, 3, 0, 1], [3, 0, 1, 2], [0, 1, 2, 3] * 2,
                     [0, 1, 2, 3] * 100):
            self.assertIs(is_ring(4, TIGHT, ring), True)

    def test_lists_that_are_no_rings(self):
        for value in ([0, 1, 2, 3] * 101, [3, 2, 1, 0], [0, 2, 1, 3], [0], [0, 1], [0, 1, 2, 3, 3],
                      [0, 1, 2, 3, 0, 1], [1, 2, 3], [0, 1, 2, 4], [-4, 1, 2, 3], [0, 1, 2, -1]):
            with self.subTest(value=value):
                self.assertIs(is_ring(4, TIGHT, value), False)

    def test_the_sum_is_above_0(self):
        for d, expected in ((-6, False), (-5, False), (-4, True), (5, True)):
            self.assertIs(is_ring(4, BOUNDS[:3] + [(3, 0, d)], [0, 1, 2, 3]), expected)

    def test_indices_that_occur_several_times(self):
        bounds = [(0, 1, 3), (1, 0, -3), (1, 1, 1), (1, 0, -5)]
        self.assertIs(is_ring(2, bounds, [0, 1]), False)
        self.assertIs(is_ring(2, bounds, [2]), True)
        self.assertIs(is_ring(2, bounds, [0, 2, 1]), True)
        self.assertIs(is_ring(2, bounds, [0, 2, 3]), False)
        self.assertIs(is_ring(2, bounds, [0, 2, 2, 3]), False)
        self.assertIs(is_ring(2, bounds, [0, 2, 2, 2, 3]), True)
        self.assertIs(is_ring(2, bounds, [0, 3, 0, 2, 2, 1]), False)
        self.assertIs(is_ring(2, bounds, [0, 3, 0, 2, 2, 2, 1]), True)
        self.assertIs(is_ring(2, bounds, [2, 1, 0]), True)
        self.assertIs(is_ring(2, bounds, [2, 0]), False)

    def test_other_values(self):
        for value in OTHER_KINDS + [
            (0, 1, 2, 3), (1, 2, 3, 0), [0, 1, 2, 3.0], [False, True, 2, 3], [0, True, 2, 3],
            [None, 1, 2, 3], ["0", 1, 2, 3], TIGHT, [[0, 1, 2, 3]], [EqualToAll(), 1, 2, 3],
            [0, 1, 2, 3] * 125, {0: 1},
        ]:
            with self.subTest(value=value):
                self.assertIs(is_ring(4, TIGHT, value), False)
        for value in ([], [0], [-1], None):
            self.assertIs(is_ring(4, [], value), False)


class TestLeastDifference(unittest.TestCase):
    def test_with_and_without_a_chain(self):
        bounds = [(0, 1, -9), (1, 2, 4), (0, 2, -6)]
        self.assertEqual(
            [[least_difference(4, bounds, i, j) for j in range(4)] for i in range(4)],
            [[0, -9, -5, None], [None, 0, 4, None], [None, None, 0, None], [None, None, None, 0]],
        )

    def test_of_a_number_on_itself(self):
        for i in range(4):
            self.assertEqual(least_difference(4, BOUNDS, i, i), 0)
        self.assertEqual(least_difference(2, [(0, 0, -5), (0, 1, 2), (1, 0, -9)], 0, 0), 0)

    def test_bounds_that_nothing_fulfils(self):
        for i in (0, 3, None, -1, 9):
            with self.assertRaises(InvalidBounds):
                least_difference(4, TIGHT, i, 0)
        with self.assertRaises(InvalidBounds):
            least_difference(5, [(4, 4, 1)], 0, 1)

    def test_wrong_places(self):
        for place in OTHER_KINDS + [4, -1, GREAT, [0], (0,), "0"]:
            if place in (0, 1) and type(place) is int:
                continue
            for i, j in ((place, 0), (0, place), (place, place), (place, None), (None, place)):
                with self.subTest(i=i, j=j), self.assertRaises(InvalidPlace):
                    least_difference(4, BOUNDS, i, j)


class TestAgainstTheModel(unittest.TestCase):
    def test_many_bounds(self):
        rings = 0
        for many, bounds in some_bounds(81, 2500):
            with self.subTest(many=many, bounds=bounds):
                best = greatest_sums(many, bounds)
                ring = ring_of(many, bounds)
                if any(best[i][i] > 0 for i in range(many)) or any(i == j and d > 0 for i, j, d in bounds):
                    rings += 1
                    self.assertIsNone(least_numbers(many, bounds))
                    self.check_ring(bounds, ring)
                    self.assertIs(is_ring(many, bounds, ring), True)
                    continue
                self.assertIsNone(ring)
                least = least_numbers(many, bounds)
                self.assertEqual(least, [
                    max([0] + [best[i][j] for i in range(many) if best[i][j] is not None])
                    for j in range(many)
                ])
                self.assertIs(holds(many, bounds, least), True)
                for i in range(many):
                    found = [least_difference(many, bounds, i, j) for j in range(many)]
                    self.assertEqual(found, best[i])
        self.assertGreater(rings, 500)

    def check_ring(self, bounds, ring):
        """The words of [38], apart from is_ring."""
        self.assertIsInstance(ring, list)
        self.assertTrue(1 <= len(ring) <= 400)
        self.assertTrue(all(type(index) is int for index in ring))
        chosen = [bounds[index] for index in ring]
        for ahead, behind in zip(chosen, chosen[1:] + chosen[:1]):
            self.assertEqual(ahead[1], behind[0])
        self.assertGreater(sum(d for i, j, d in chosen), 0)


if __name__ == "__main__":
    unittest.main()
