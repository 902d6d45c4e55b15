"""Point [6]: spaced of apartrow.gaps."""

import itertools
import unittest

from apartrow.answers import Spaced
from apartrow.gaps import spaced
from trial import small_heaps


def fits(numbers, apart, length, row=()):
    """Whether a row of this length, with gaps where need be, can be made: by trial, place by place."""
    left = sum(numbers.values())
    if left == 0:
        return True
    if left > length - len(row):
        return False
    near = row[max(0, len(row) - apart + 1):]
    for kind in sorted(numbers):
        if numbers[kind] and kind not in near:
            if fits({**numbers, kind: numbers[kind] - 1}, apart, length, row + (kind,)):
                return True
    return fits(numbers, apart, length, row + (-1,))


class SpacedTest(unittest.TestCase):
    def check_spaced(self, heap, apart, length):
        told = spaced(heap, apart)
        self.assertIs(type(told), Spaced)
        kinds = told.kinds
        self.assertEqual(len(kinds), length, (heap[:20], apart))
        self.assertEqual(sorted(kind for kind in kinds if kind != -1), sorted(heap))
        last = {}
        for place, kind in enumerate(kinds):
            if kind != -1:
                self.assertGreaterEqual(place - last.get(kind, -1000), apart, (kinds[:20], apart))
                last[kind] = place
        self.assertIs(told.shows(heap, apart), True)

    def test_none_and_one(self):
        for apart in (1, 2, 3, 999, 1000):
            self.assertEqual(spaced([], apart).kinds, [])
            self.check_spaced([], apart, 0)
            self.assertEqual(spaced([7], apart).kinds, [7])
            self.check_spaced([7], apart, 1)

    def test_next_to_one_another(self):
        for heap in ([5, 5], [5, 5, 5, 2], [1, 2, 1, 2], [0] * 50):
            self.check_spaced(heap, 1, len(heap))

    def test_one_commonest_kind(self):
        self.assertEqual(spaced([5, 5], 2).kinds, [5, -1, 5])
        self.assertEqual(spaced([5, 5, 5], 3).kinds, [5, -1, -1, 5, -1, -1, 5])
        self.check_spaced([1, 1, 2], 2, 3)
        self.check_spaced([1, 1, 1, 2], 2, 5)
        self.check_spaced([1, 1, 1, 2], 3, 7)
        self.check_spaced([1, 1, 1, 2, 2, 3, 3, 4, 4, 5], 3, 10)

    def test_several_commonest_kinds(self):
        self.check_spaced([1, 1, 2, 2], 2, 4)
        self.check_spaced([1, 1, 2, 2], 3, 5)
        self.check_spaced([1, 1, 1, 2, 2, 2], 3, 8)
        self.check_spaced([1, 1, 1, 2, 2, 2, 4, 4, 4], 2, 9)
        self.check_spaced([1, 1, 1, 2, 2, 2, 4, 4, 4], 4, 11)
        self.check_spaced([1, 1, 2, 2, 3, 3, 4, 4], 3, 8)

    def test_kinds_with_one_thing_for_every_stretch(self):
        self.check_spaced([0] * 4 + [1] * 3 + [2] * 3 + [3] * 2, 4, 13)
        self.check_spaced([9] * 4 + [1] * 2 + [2] * 3 + [3] * 3 + [4], 4, 13)
        self.check_spaced([9] * 4 + [0] + [1] * 2 + [2] * 3 + [3] * 3 + [4] * 3, 5, 16)

    def test_all_once(self):
        for apart in (1, 2, 1000):
            self.check_spaced(list(range(300)), apart, 300)

    def test_numbers_greater_than_the_heap(self):
        self.check_spaced([5, 5], 1000, 1001)
        self.check_spaced([5, 6, 5, 6, 8], 6, 8)
        self.check_spaced([5, 6, 5, 6, 8], 999, 1001)
        self.check_spaced([5] * 4 + [6] * 4 + [7] * 3 + [8], 1000, 3002)

    def test_every_number_up_to_the_greatest(self):
        heap = [3] * 3 + [4] * 3 + [5] * 2 + [6] * 2 + [7]
        for apart in range(1, 1001):
            self.check_spaced(heap, apart, max(len(heap), 2 * apart + 2))

    def test_many_kinds(self):
        heap = [kind for kind in range(1000) for thing in range(3 + kind * 7 % 5)]
        for apart in (1, 2, 500, 832, 833, 1000):
            self.check_spaced(heap, apart, max(len(heap), 6 * apart + 200))

    def test_small_numbers_of_things_of_all_shapes(self):
        for numbers in itertools.combinations_with_replacement(range(6), 6):
            heap = [kind for kind, number in enumerate(numbers) for thing in range(number)]
            most = max(numbers)
            top = numbers.count(most) if most else 0
            for apart in range(1, 9):
                self.check_spaced(heap, apart, max(len(heap), apart * (most - 1) + top))

    def test_no_shorter_one_exists_by_trial(self):
        for heap in small_heaps(6, 3):
            numbers = {kind: heap.count(kind) for kind in set(heap)}
            for apart in (1, 2, 3, 4, 5, 7):
                length = len(heap)
                while not fits(numbers, apart, length):
                    length += 1
                self.check_spaced(heap, apart, length)


if __name__ == "__main__":
    unittest.main()
