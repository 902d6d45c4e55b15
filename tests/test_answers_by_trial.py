"""The answers against a plain trial of everything that could be made of small heaps."""

import itertools
import unittest

from apartrow.answers import Grouped, Much, Paired, Ring, Row, Spaced


def small_heaps(most_things, most_kinds):
    for length in range(most_things + 1):
        for heap in itertools.combinations_with_replacement(range(most_kinds), length):
            yield list(heap)


def all_rows(heap):
    if not heap:
        yield ()
    for kind in sorted(set(heap)):
        rest = list(heap)
        rest.remove(kind)
        for row in all_rows(rest):
            yield (kind,) + row


def unlike(row):
    return all(a != b for a, b in zip(row, row[1:]))


def is_ring(row):
    return len(row) >= 2 and unlike(row + row[:1])


def far_enough(row, apart):
    places = [(place, kind) for place, kind in enumerate(row) if kind != -1]
    return all(q - p >= apart for p, a in places for q, b in places if p < q and a == b)


def shortest_rows(heap, apart):
    length = len(heap)
    while True:
        found = {row for row in all_rows(heap + [-1] * (length - len(heap))) if far_enough(row, apart)}
        if found:
            return found
        length += 1


def pairings(heap):
    """Each way to take pairs of unlike kinds out of a sorted heap: the pairs, and what is left."""
    if not heap:
        yield [], []
        return
    first, rest = heap[0], heap[1:]
    for pairs, left in pairings(rest):
        yield pairs, [first] + left
    for place, other in enumerate(rest):
        if other != first:
            for pairs, left in pairings(rest[:place] + rest[place + 1:]):
                yield [(first, other)] + pairs, left


def groupings(heap, size, least=()):
    """Each way to take groups out of a sorted heap, the groups rising."""
    yield []
    for group in sorted(set(itertools.combinations(heap, size))):
        if group >= least and len(set(group)) == size:
            rest = list(heap)
            for kind in group:
                rest.remove(kind)
            for groups in groupings(rest, size, group):
                yield [list(group)] + groups


class TrialTest(unittest.TestCase):
    def test_rows_and_rings_and_the_kind_that_bars_them(self):
        for heap in small_heaps(7, 3):
            rows = list(all_rows(heap))
            for row in rows:
                self.assertIs(Row(list(row)).shows(heap), unlike(row), (row, heap))
                self.assertIs(Ring(list(row)).shows(heap), is_ring(row), (row, heap))
            barred = any(Much(kind).shows(heap) for kind in range(4))
            self.assertIs(barred, not any(unlike(row) for row in rows), heap)
            ring_barred = any(Much(kind).bars_ring(heap) for kind in range(4))
            self.assertIs(ring_barred, len(heap) >= 2 and not any(is_ring(row) for row in rows), heap)

    def test_any_row_against_any_heap(self):
        heaps = list(small_heaps(4, 3))
        for length in range(5):
            for row in itertools.product(range(3), repeat=length):
                for heap in heaps:
                    same = sorted(row) == heap
                    self.assertIs(Row(list(row)).shows(heap), same and unlike(row))
                    self.assertIs(Ring(list(row)).shows(heap), same and is_ring(row))

    def test_spaced_rows(self):
        for heap in small_heaps(4, 3):
            for apart in (-1, 0, 1, 2, 3, 4):
                found = shortest_rows(heap, apart)
                longest = max(len(row) for row in found) + 2
                for gaps in range(longest - len(heap) + 1):
                    for row in all_rows(heap + [-1] * gaps):
                        self.assertIs(Spaced(list(row)).shows(heap, apart), row in found, (row, heap, apart))

    def test_spaced_rows_of_any_kinds(self):
        heaps = list(small_heaps(3, 2))
        for apart in (1, 2, 3):
            shortest = [(heap, shortest_rows(heap, apart)) for heap in heaps]
            for length in range(6):
                for row in itertools.product((-1, 0, 1), repeat=length):
                    for heap, found in shortest:
                        self.assertIs(Spaced(list(row)).shows(heap, apart), row in found, (row, heap, apart))

    def test_pairs(self):
        for heap in small_heaps(6, 3):
            ways = list(pairings(heap))
            most = max(len(pairs) for pairs, left in ways)
            for pairs, left in ways:
                self.assertIs(Paired(pairs, left).shows(heap), len(pairs) == most, (pairs, left, heap))

    def test_groups(self):
        for heap in small_heaps(6, 4):
            for size in (1, 2, 3, 4):
                ways = list(groupings(heap, size))
                most = max(len(groups) for groups in ways)
                for groups in ways:
                    self.assertIs(Grouped(groups).shows(heap, size), len(groups) == most, (groups, heap, size))


if __name__ == "__main__":
    unittest.main()
