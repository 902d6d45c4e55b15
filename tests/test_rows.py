"""Points [3], [4], [5]: unlike, ringed and least of apartrow.rows."""

import itertools
import unittest

from apartrow.answers import Much, Ring, Row
from apartrow.errors import TooFew
from apartrow.rows import least, ringed, unlike
from trial import all_rows, is_ring, small_heaps
from trial import unlike as has_unlike_neighbours

MANY_KINDS = [kind for kind in range(1000) for thing in range(1 + kind * 7 % 5)]
# There is one thing of kind 0 among the many kinds already.
ONE_MORE_OF_A_KIND = MANY_KINDS + [0] * (len(MANY_KINDS) - 1)


class RowsTest(unittest.TestCase):
    def check_row(self, told, heap):
        self.assertIs(type(told), Row)
        self.assertEqual(sorted(told.kinds), sorted(heap))
        self.assertTrue(has_unlike_neighbours(told.kinds), told.kinds[:20])
        self.assertIs(told.shows(heap), True)

    def check_ring(self, told, heap):
        self.assertIs(type(told), Ring)
        self.assertEqual(sorted(told.kinds), sorted(heap))
        self.assertTrue(is_ring(told.kinds), told.kinds[:20])
        self.assertIs(told.shows(heap), True)

    def check_much(self, told, kind):
        self.assertIs(type(told), Much)
        self.assertEqual(told.kind, kind)
        self.assertIs(type(told.kind), int)


class UnlikeTest(RowsTest):
    def test_none_and_one(self):
        self.assertEqual(unlike([]).kinds, [])
        self.check_row(unlike([]), [])
        self.assertEqual(unlike([7]).kinds, [7])
        self.check_row(unlike([7]), [7])

    def test_two(self):
        self.check_row(unlike([7, 3]), [7, 3])
        self.check_much(unlike([7, 7]), 7)
        self.check_much(unlike([0, 0]), 0)

    def test_as_many_as_of_all_others_and_more(self):
        for others in ([2], [2, 3], [2, 2, 3], [2, 3, 4, 4, 5], list(range(2, 300))):
            many = len(others)
            for kind in (1, 999):
                self.check_row(unlike(others + [kind] * many), others + [kind] * many)
                self.check_row(unlike([kind] * (many + 1) + others), others + [kind] * (many + 1))
                for more in (2, 3, 50):
                    heap = others + [kind] * (many + more)
                    self.check_much(unlike(heap), kind)
                    self.assertIs(unlike(heap).shows(heap), True)

    def test_two_kinds_of_the_same_number(self):
        self.check_row(unlike([5, 5, 5, 2, 2, 2]), [5, 5, 5, 2, 2, 2])
        self.check_row(unlike([5, 5, 5, 2, 2, 2, 9]), [5, 5, 5, 2, 2, 2, 9])

    def test_many_kinds(self):
        self.check_row(unlike(MANY_KINDS), MANY_KINDS)
        self.check_row(unlike(ONE_MORE_OF_A_KIND), ONE_MORE_OF_A_KIND)
        self.check_row(unlike(list(range(1000))), list(range(1000)))

    def test_all_small_heaps_by_trial(self):
        for heap in small_heaps(7, 4):
            self.check_told(heap, unlike(heap), any(has_unlike_neighbours(row) for row in all_rows(heap)))

    def check_told(self, heap, told, possible):
        if possible:
            self.check_row(told, heap)
        else:
            self.assertIs(type(told), Much, heap)
            self.assertGreater(heap.count(told.kind), len(heap) - heap.count(told.kind) + 1)
            self.assertIs(told.shows(heap), True)


class RingedTest(RowsTest):
    def test_fewer_than_two(self):
        for heap in ([], [0], [7], [999]):
            with self.assertRaises(TooFew) as refused:
                ringed(heap)
            self.assertIs(type(refused.exception), TooFew)

    def test_two(self):
        self.check_ring(ringed([7, 3]), [7, 3])
        self.check_much(ringed([7, 7]), 7)
        self.check_much(ringed([0, 0]), 0)

    def test_as_many_as_of_all_others_and_more(self):
        for others in ([2], [2, 3], [2, 2, 3], [2, 3, 4, 4, 5], list(range(2, 300))):
            many = len(others)
            for kind in (1, 999):
                self.check_ring(ringed(others + [kind] * many), others + [kind] * many)
                for more in (1, 2, 50):
                    heap = others + [kind] * (many + more)
                    self.check_much(ringed(heap), kind)
                    self.assertIs(ringed(heap).bars_ring(heap), True)

    def test_one_more_bars_a_ring_and_not_a_row(self):
        heap = [4, 4, 9]
        self.check_row(unlike(heap), heap)
        self.check_much(ringed(heap), 4)
        self.assertIs(ringed(heap).shows(heap), False)

    def test_an_odd_number_of_things(self):
        for heap in ([1, 2, 3], [1, 1, 2, 2, 3], [1, 1, 1, 2, 2, 2, 3], [5, 5, 4, 4, 3, 3, 2]):
            self.check_ring(ringed(heap), heap)

    def test_many_kinds(self):
        self.check_ring(ringed(MANY_KINDS), MANY_KINDS)
        self.check_ring(ringed(list(range(999))), list(range(999)))

    def test_all_small_heaps_by_trial(self):
        for heap in small_heaps(7, 4):
            if len(heap) < 2:
                continue
            told = ringed(heap)
            if any(is_ring(row) for row in all_rows(heap)):
                self.check_ring(told, heap)
            else:
                self.assertIs(type(told), Much, heap)
                self.assertGreater(heap.count(told.kind), len(heap) - heap.count(told.kind))
                self.assertIs(told.bars_ring(heap), True)


class LeastTest(RowsTest):
    def test_by_hand(self):
        for heap, row in (
            ([], []), ([7], [7]), ([7, 3], [3, 7]), ([2, 1, 2], [2, 1, 2]), ([2, 1, 1], [1, 2, 1]),
            ([2, 2, 1, 1], [1, 2, 1, 2]), ([3, 3, 2, 1], [1, 3, 2, 3]), ([1, 2, 3, 3, 3], [3, 1, 3, 2, 3]),
            ([0, 0, 0, 1, 1, 1, 2, 2], [0, 1, 0, 1, 0, 2, 1, 2]),
            ([0, 0, 0, 1, 2, 3], [0, 1, 0, 2, 0, 3]), ([0, 10, 9, 9], [0, 9, 10, 9]),
        ):
            with self.subTest(heap):
                self.assertEqual(least(heap).kinds, row)
                self.check_row(least(heap), heap)

    def test_much_just_where_unlike_tells_it(self):
        for others in ([], [2], [2, 3], [2, 2, 3], [2, 3, 4, 4, 5]):
            for more in (0, 1, 2, 3, 50):
                for kind in (1, 999):
                    heap = others + [kind] * (len(others) + more)
                    told = least(heap)
                    self.assertIs(type(told), Much if more > 1 else Row)
                    self.assertIs(type(told), type(unlike(heap)))
                    self.assertIs(told.shows(heap), True)

    def test_all_small_heaps_by_trial(self):
        # All rows come rising, so the first one that will do is the least.
        for heap in itertools.chain(small_heaps(8, 3), small_heaps(7, 5)):
            expected = next((list(row) for row in all_rows(heap) if has_unlike_neighbours(row)), None)
            told = least(heap)
            if expected is None:
                self.assertIs(type(told), Much, heap)
                self.assertEqual(told.kind, unlike(heap).kind)
                self.assertIs(told.shows(heap), True)
            else:
                self.assertEqual(told.kinds, expected)
                self.check_row(told, heap)

    def test_great_heaps_step_by_step(self):
        heaps = [MANY_KINDS, MANY_KINDS + [500] * 1500, ONE_MORE_OF_A_KIND, [3, 2, 1] * 400]
        for heap in heaps:
            self.check_row(least(heap), heap)
            self.assertEqual(least(heap).kinds, least_step_by_step(heap))

    def test_all_kinds_once(self):
        self.assertEqual(least(list(range(999, -1, -1))).kinds, list(range(1000)))


def can_follow(numbers, kind, left):
    """Whether the rest can be put in a row behind a thing of this kind, when so many are left behind it."""
    others = [number for other, number in numbers.items() if other != kind]
    return 2 * max(others, default=0) <= left + 1 and 2 * (numbers[kind] - 1) <= left


def least_step_by_step(heap):
    numbers = {kind: heap.count(kind) for kind in sorted(set(heap))}
    row = []
    for left in range(len(heap) - 1, -1, -1):
        fit = (kind for kind in numbers if numbers[kind] and row[-1:] != [kind] and can_follow(numbers, kind, left))
        row.append(next(fit))
        numbers[row[-1]] -= 1
    return row


if __name__ == "__main__":
    unittest.main()
