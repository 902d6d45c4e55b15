"""Point [1] and the interface: counts and commonest of apartrow.heaps."""

import itertools
import unittest

from apartrow.errors import BadHeap
from apartrow.heaps import commonest, counts

NO_HEAPS = [
    None, True, False, 0, 7, 1.5, "", "12", b"12", (), (1, 2), {}, {1: 2}, {1}, frozenset(), range(3),
    iter([1, 2]), object(), list, [True], [False], [0, True], [1, False, 1], [None], [1.0], [0.5], ["1"],
    [b"1"], [[]], [[1]], [(1,)], [{}], [{1}], [1, None], [object()], [-1], [1000], [0, -1], [999, 1000],
    [-1000], [10 ** 400], [-(10 ** 400)], [float("nan")], [float("inf")], [1j], [1, 2, "x"],
]


class CountsTest(unittest.TestCase):
    def test_no_things(self):
        self.assertEqual(counts([]), [])

    def test_one_thing(self):
        self.assertEqual(counts([5]), [(5, 1)])

    def test_many_kinds_rising(self):
        self.assertEqual(counts([9, 10, 2, 9, 2, 9, 100]), [(2, 2), (9, 3), (10, 1), (100, 1)])

    def test_the_least_and_the_greatest_kind(self):
        self.assertEqual(counts([999, 0, 999]), [(0, 1), (999, 2)])

    def test_all_kinds(self):
        self.assertEqual(counts(list(range(999, -1, -1))), [(kind, 1) for kind in range(1000)])

    def test_told_are_a_list_and_tuples_of_whole_numbers(self):
        told = counts([3, 3, 1])
        self.assertIs(type(told), list)
        for pair in told:
            self.assertIs(type(pair), tuple)
            self.assertEqual([type(part) for part in pair], [int, int])

    def test_small_heaps_against_a_plain_count(self):
        for length in range(6):
            for heap in itertools.product(range(3), repeat=length):
                expected = [(kind, heap.count(kind)) for kind in range(3) if kind in heap]
                self.assertEqual(counts(list(heap)), expected)


class CommonestTest(unittest.TestCase):
    def test_no_things(self):
        self.assertEqual(commonest([]), [])

    def test_one_thing(self):
        self.assertEqual(commonest([5]), [5])

    def test_one_kind_is_commonest(self):
        self.assertEqual(commonest([4, 2, 4, 9, 4, 2]), [4])

    def test_several_kinds_rising(self):
        self.assertEqual(commonest([10, 9, 2, 10, 9, 2, 100]), [2, 9, 10])

    def test_the_least_and_the_greatest_kind(self):
        self.assertEqual(commonest([999, 0]), [0, 999])

    def test_told_is_a_list_of_whole_numbers(self):
        told = commonest([3, 3, 1])
        self.assertIs(type(told), list)
        self.assertEqual([type(kind) for kind in told], [int])

    def test_small_heaps_against_a_plain_count(self):
        for length in range(1, 6):
            for heap in itertools.product(range(3), repeat=length):
                most = max(heap.count(kind) for kind in range(3))
                expected = [kind for kind in range(3) if heap.count(kind) == most]
                self.assertEqual(commonest(list(heap)), expected)


class BothTest(unittest.TestCase):
    def test_what_is_no_heap_is_refused(self):
        for ask in (counts, commonest):
            for value in NO_HEAPS:
                with self.subTest(ask=ask.__name__, value=repr(value)[:40]):
                    with self.assertRaises(BadHeap):
                        ask(value)

    def test_a_wrong_kind_is_refused_wherever_it_stands(self):
        for ask in (counts, commonest):
            for place in range(4):
                for kind in (-1, 1000, True, None, []):
                    heap = [1, 2, 3]
                    heap.insert(place, kind)
                    with self.assertRaises(BadHeap):
                        ask(heap)

    def test_a_million_things_are_a_heap_and_one_more_are_none(self):
        heap = [7, 0] * 500000
        self.assertEqual(counts(heap), [(0, 500000), (7, 500000)])
        self.assertEqual(commonest(heap), [0, 7])
        heap.append(7)
        for ask in (counts, commonest):
            with self.assertRaises(BadHeap):
                ask(heap)

    def test_the_heap_stays_as_it_was(self):
        for ask in (counts, commonest):
            heap = [3, 1, 3, 2]
            ask(heap)
            self.assertEqual(heap, [3, 1, 3, 2])
            refused = [3, 1, -1]
            with self.assertRaises(BadHeap):
                ask(refused)
            self.assertEqual(refused, [3, 1, -1])

    def test_what_was_told_may_be_changed(self):
        for ask, expected in ((counts, [(1, 1), (3, 2)]), (commonest, [3])):
            heap = [3, 1, 3]
            told = ask(heap)
            told.append("more")
            told[0] = "other"
            self.assertEqual(heap, [3, 1, 3])
            self.assertEqual(ask(heap), expected)
            self.assertIsNot(ask(heap), ask(heap))
        commonest([]).append(1)
        counts([]).append(1)
        self.assertEqual((commonest([]), counts([])), ([], []))

    def test_what_was_handed_in_may_be_changed(self):
        for ask, expected in ((counts, [(1, 1), (3, 2)]), (commonest, [3])):
            heap = [3, 1, 3]
            told = ask(heap)
            heap.clear()
            self.assertEqual(told, expected)


if __name__ == "__main__":
    unittest.main()
