"""Points [7] and [8]: paired and grouped of apartrow.groups."""

import itertools
import unittest

from apartrow.answers import Grouped, Paired
from apartrow.groups import grouped, paired
from trial import groupings, pairings, small_heaps

MANY_KINDS = [kind for kind in range(1000) for thing in range(1 + kind * 7 % 5)]


class PairedTest(unittest.TestCase):
    def check_paired(self, heap, many):
        told = paired(heap)
        self.assertIs(type(told), Paired)
        self.assertEqual(len(told.pairs), many, heap[:20])
        self.assertIs(type(told.left), list)
        for pair in told.pairs:
            self.assertIs(type(pair), tuple)
            self.assertEqual(len(pair), 2)
            self.assertNotEqual(pair[0], pair[1])
        self.assertEqual(sorted([kind for pair in told.pairs for kind in pair] + told.left), sorted(heap))
        if len(told.left) > 1:
            self.assertEqual(len(set(told.left)), 1)
            self.assertTrue(all(told.left[0] in pair for pair in told.pairs))
        self.assertIs(told.shows(heap), True)

    def test_nothing_to_pair(self):
        self.check_paired([], 0)
        self.check_paired([7], 0)
        self.check_paired([7, 7], 0)
        self.check_paired([0] * 9, 0)

    def test_none_left(self):
        self.check_paired([7, 3], 1)
        self.check_paired([1, 1, 2, 3], 2)
        self.check_paired([1, 1, 2, 2], 2)
        self.check_paired([1, 1, 1, 2, 2, 3], 3)

    def test_one_left(self):
        self.check_paired([1, 2, 3], 1)
        self.check_paired([1, 2, 2], 1)
        self.check_paired([1, 1, 2, 2, 3], 2)
        self.check_paired([1, 1, 1, 2, 2, 2, 3], 3)
        self.check_paired([3, 3, 3, 1, 2], 2)

    def test_many_left_of_one_kind(self):
        self.assertEqual(paired([7, 7, 7, 3]).left, [7, 7])
        self.check_paired([7, 7, 7, 3], 1)
        self.check_paired([1, 2, 2, 3, 3, 3, 4] + [9] * 50, 7)
        self.check_paired([0] * 50 + [1, 2, 2, 3, 3, 3, 4], 7)

    def test_as_many_as_of_all_others_and_more(self):
        others = list(range(1, 301))
        for kind in (0, 999):
            for more in range(-3, 4):
                self.check_paired(others + [kind] * (300 + more), 300 if more >= 0 else (600 + more) // 2)

    def test_many_kinds(self):
        self.check_paired(MANY_KINDS, len(MANY_KINDS) // 2)
        self.check_paired(MANY_KINDS[1:], (len(MANY_KINDS) - 1) // 2)

    def test_no_more_pairs_by_trial(self):
        for heap in itertools.chain(small_heaps(7, 3), small_heaps(6, 5)):
            self.check_paired(heap, max(len(pairs) for pairs, left in pairings(heap)))


class GroupedTest(unittest.TestCase):
    def check_grouped(self, heap, size, many):
        told = grouped(heap, size)
        self.assertIs(type(told), Grouped)
        self.assertIs(type(told.groups), list)
        self.assertEqual(len(told.groups), many, (heap[:20], size))
        for group in told.groups:
            self.assertIs(type(group), list)
            self.assertEqual(len(group), size)
            self.assertEqual(len(set(group)), size)
        used = [kind for group in told.groups for kind in group]
        for kind in set(used):
            self.assertLessEqual(used.count(kind), heap.count(kind))
        self.assertIs(told.shows(heap, size), True)

    def test_no_things(self):
        for size in (1, 2, 3, 1000):
            self.assertEqual(grouped([], size).groups, [])
            self.check_grouped([], size, 0)

    def test_size_one(self):
        self.check_grouped([7], 1, 1)
        self.check_grouped([7, 7, 3], 1, 3)

    def test_size_two(self):
        self.check_grouped([7], 2, 0)
        self.check_grouped([7, 7], 2, 0)
        self.check_grouped([7, 3], 2, 1)
        self.check_grouped([7, 7, 7, 3], 2, 1)
        self.check_grouped([1, 1, 1, 2, 2, 2, 3], 2, 3)

    def test_size_three(self):
        self.check_grouped([1, 1, 1, 2, 2, 3, 3, 4, 4], 3, 3)
        self.check_grouped([1] * 9 + [2, 2, 3, 3, 4, 4], 3, 3)
        self.check_grouped([1] * 9 + [2] * 9 + [3], 3, 1)

    def test_as_many_as_there_are_kinds_and_more(self):
        heap = [1, 1, 1, 2, 2, 3, 3, 3, 3]
        self.check_grouped(heap, 3, 2)
        self.check_grouped(heap, 4, 0)
        self.check_grouped(heap, 1000, 0)

    def test_the_greatest_size(self):
        self.check_grouped(list(range(1000)) * 2, 1000, 2)
        self.check_grouped(list(range(1000)) + [5] * 9, 1000, 1)
        self.check_grouped(list(range(999)) * 2, 1000, 0)
        self.check_grouped(list(range(999)) * 2, 999, 2)

    def test_many_kinds(self):
        for size in (1, 2, 3, 10, 300, 599, 600, 601, 999, 1000):
            many = 0
            while sum(min(1 + kind * 7 % 5, many + 1) for kind in range(1000)) >= size * (many + 1):
                many += 1
            self.check_grouped(MANY_KINDS, size, many)

    def test_no_more_groups_by_trial(self):
        for heap in small_heaps(7, 4):
            for size in (1, 2, 3, 4, 5):
                self.check_grouped(heap, size, max(len(groups) for groups in groupings(heap, size)))


if __name__ == "__main__":
    unittest.main()
