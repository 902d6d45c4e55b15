"""The answers against a plain trial of everything that could be made of small heaps."""

import itertools
import unittest

from apartrow.answers import Grouped, Much, Paired, Ring, Row, Spaced
from trial import all_rows, groupings, is_ring, pairings, shortest_rows, small_heaps, unlike


class TrialTest(unittest.TestCase):
    def test_rows_and_rings_and_the_kind_that_bars_them(self):
        for heap in small_heaps(7, 3):
            rows = list(all_rows(heap))
            for row in rows:
                self.assertIs(Row(list(row)).shows(heap), unlike(row), (row, heap))
                self.assertIs(Ring(list(row)).shows(heap), is_ring(row), (row, heap))
            barred = any(Much(kind).shows(heap) for kind in range(4))
            self.assertIs(barred, not any(unlike(row) for row in rows), heap)
            ring_barred = any(Much(kind).bars_ring(heap) for kind in range(4))
            self.assertIs(ring_barred, len(heap) >= 2 and not any(is_ring(row) for row in rows), heap)

    def test_any_row_against_any_heap(self):
        heaps = list(small_heaps(4, 3))
        for length in range(5):
            for row in itertools.product(range(3), repeat=length):
                for heap in heaps:
                    same = sorted(row) == heap
                    self.assertIs(Row(list(row)).shows(heap), same and unlike(row))
                    self.assertIs(Ring(list(row)).shows(heap), same and is_ring(row))

    def test_spaced_rows(self):
        for heap in small_heaps(4, 3):
            for apart in (-1, 0, 1, 2, 3, 4):
                found = shortest_rows(heap, apart)
                longest = max(len(row) for row in found) + 2
                for gaps in range(longest - len(heap) + 1):
                    for row in all_rows(heap + [-1] * gaps):
                        self.assertIs(Spaced(list(row)).shows(heap, apart), row in found, (row, heap, apart))

    def test_spaced_rows_of_any_kinds(self):
        heaps = list(small_heaps(3, 2))
        for apart in (1, 2, 3):
            shortest = [(heap, shortest_rows(heap, apart)) for heap in heaps]
            for length in range(6):
                for row in itertools.product((-1, 0, 1), repeat=length):
                    for heap, found in shortest:
                        self.assertIs(Spaced(list(row)).shows(heap, apart), row in found, (row, heap, apart))

    def test_pairs(self):
        for heap in small_heaps(6, 3):
            ways = list(pairings(heap))
            most = max(len(pairs) for pairs, left in ways)
            for pairs, left in ways:
                self.assertIs(Paired(pairs, left).shows(heap), len(pairs) == most, (pairs, left, heap))

    def test_groups(self):
        for heap in small_heaps(6, 4):
            for size in (1, 2, 3, 4):
                ways = list(groupings(heap, size))
                most = max(len(groups) for groups in ways)
                for groups in ways:
                    self.assertIs(Grouped(groups).shows(heap, size), len(groups) == most, (groups, heap, size))


if __name__ == "__main__":
    unittest.main()
