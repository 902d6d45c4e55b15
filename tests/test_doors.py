"""Points [1] and [2] over the whole program: refusals at each door, nothing changed or kept, what is told is new."""

import itertools
import unittest

from apartrow import errors, gaps, groups, heaps, rows, texts
from apartrow.answers import Much

HEAP_DOORS = [heaps.counts, heaps.commonest, rows.unlike, rows.ringed, rows.least, groups.paired, texts.written]
NUMBER_DOORS = [gaps.spaced, groups.grouped]
NO_LISTS = [
    None, True, False, 0, 7, 1.5, "", "-", "12", b"12", (), (1, 2), {}, {1: 2}, {1}, frozenset(), range(3),
    iter([1, 2]), object(), list, len, 1j,
]
BAD_KINDS = [
    True, False, None, -1, 1000, -1000, 10 ** 400, -(10 ** 400), 1.0, 0.5, float("nan"), float("inf"), 1j, "1", "",
    b"1", [], [1], (), (1,), {}, {1}, object(), int, range(1),
]
BAD_NUMBERS = [
    0, -1, -1000, 1001, 10 ** 6, 10 ** 400, -(10 ** 400), True, False, None, 1.0, 2.5, float("nan"), float("inf"), 1j,
    "2", "", b"2", [], [2], (), (2,), {}, {2}, object(), int, range(2),
]
HEAPS = [[3, 1, 3, 2], [5, 5, 5, 2], [4, 9], [8, 8], [0, 999, 0, 999, 7]]


def doors():
    """Each function that takes a heap, as one that takes nothing else."""
    for door in HEAP_DOORS:
        yield door.__name__, door
    for door in NUMBER_DOORS:
        for number in (1, 2, 3, 1000):
            yield f"{door.__name__} {number}", lambda heap, door=door, number=number: door(heap, number)


def plain(told):
    """What is told, as a value that doesn't change with it."""
    if isinstance(told, (list, str)):
        return repr(told)
    return type(told).__name__ + repr(vars(told))


def lists_within(told):
    if isinstance(told, list):
        yield told
        for part in told:
            yield from lists_within(part)
    elif hasattr(told, "__dict__"):
        for part in vars(told).values():
            yield from lists_within(part)


class RefusalsTest(unittest.TestCase):
    def check_refused(self, error, door, *handed):
        with self.subTest(door=door.__name__, handed=repr(handed)[:60]):
            with self.assertRaises(errors.HeapError) as refused:
                door(*handed)
            self.assertIs(type(refused.exception), error)

    def check_bad_heap(self, value):
        for door in HEAP_DOORS:
            self.check_refused(errors.BadHeap, door, value)
        for door in NUMBER_DOORS:
            self.check_refused(errors.BadHeap, door, value, 2)

    def test_what_is_no_list(self):
        for value in NO_LISTS:
            self.check_bad_heap(value)

    def test_a_bad_kind_at_any_place(self):
        for kind in BAD_KINDS:
            self.check_bad_heap([kind])
            for place in range(4):
                heap = [1, 2, 3]
                heap.insert(place, kind)
                self.check_bad_heap(heap)

    def test_a_bad_kind_among_many(self):
        heap = [1, 2, 3] * 2000
        for place in (0, 3000, 6000):
            self.check_bad_heap(heap[:place] + [1000] + heap[place:])

    def test_more_than_a_million_things(self):
        self.check_bad_heap([7] * 1000001)

    def test_bad_numbers(self):
        for door in NUMBER_DOORS:
            for number in BAD_NUMBERS:
                for heap in ([], [5], [1, 2, 2]):
                    self.check_refused(errors.BadNumber, door, heap, number)

    def test_the_least_and_the_greatest_number(self):
        for door in NUMBER_DOORS:
            for number in (1, 1000):
                for heap in ([], [5], [1, 2, 2]):
                    self.assertIs(door(heap, number).shows(heap, number), True)

    def test_the_least_and_the_greatest_kind(self):
        for name, door in doors():
            door([0, 999])

    def test_of_two_faults_the_one_that_is_told_first(self):
        for door in NUMBER_DOORS:
            for number in (0, 1001, True, None, "2", []):
                for heap in (None, (), "12", [True], [-1], [1000], [1, 2, None], 2):
                    self.check_refused(errors.BadHeap, door, heap, number)

    def test_too_few_only_of_a_heap(self):
        for heap in ([], [0], [7], [999]):
            self.check_refused(errors.TooFew, rows.ringed, heap)
        for value in ((), (1,), "", None, {}, [True], [-1], [1000], [None], [[]]):
            self.check_refused(errors.BadHeap, rows.ringed, value)

    def test_no_other_door_asks_for_two_things(self):
        for name, door in doors():
            if name != "ringed":
                door([])
                door([7])


class NothingChangedOrKeptTest(unittest.TestCase):
    def test_the_heap_stays_as_it_was(self):
        for name, door in doors():
            for heap in HEAPS:
                handed = list(heap)
                door(handed)
                self.assertEqual(handed, heap, name)

    def test_what_is_refused_stays_as_it_was(self):
        for name, door in doors():
            for heap in ([3, 1, -1], [3, True], [[], 1]):
                handed = list(heap)
                with self.assertRaises(errors.BadHeap):
                    door(handed)
                self.assertEqual(repr(handed), repr(heap), name)

    def test_the_heap_may_be_changed_behind_it(self):
        for name, door in doors():
            for heap in HEAPS:
                handed = list(heap)
                told = door(handed)
                before = plain(told)
                handed.reverse()
                handed.append(77)
                handed[0] = 78
                self.assertEqual(plain(told), before, name)

    def test_what_was_told_may_be_changed(self):
        for name, door in doors():
            for heap in HEAPS:
                handed = list(heap)
                before = plain(door(handed))
                told = door(handed)
                for part in list(lists_within(told)):
                    part.append("more")
                    part[0] = "other"
                self.assertEqual(handed, heap, name)
                self.assertEqual(plain(door(handed)), before, name)
                self.assertEqual(plain(door(list(heap))), before, name)

    def test_lists_that_are_told_are_no_others(self):
        for name, door in doors():
            for heap in HEAPS:
                handed = list(heap)
                first, second = door(handed), door(handed)
                within = list(lists_within(first)) + list(lists_within(second)) + [handed]
                self.assertEqual(len({id(part) for part in within}), len(within), name)

    def test_of_no_things_too(self):
        for name, door in doors():
            if name == "ringed":
                continue
            before = plain(door([]))
            for part in list(lists_within(door([]))):
                part.append(5)
            self.assertEqual(plain(door([])), before, name)

    def test_a_heap_that_was_read_is_new(self):
        for text in ("-", "5*2 1*1"):
            before = list(texts.read(text))
            texts.read(text).append(9)
            self.assertEqual(texts.read(text), before)
            self.assertIsNot(texts.read(text), texts.read(text))


class OrderTest(unittest.TestCase):
    def test_the_order_of_a_heap_counts_only_where_it_is_written(self):
        for heap in ([3, 1, 3, 2], [5, 5, 5, 2], [4, 9], [1, 1, 2, 2, 3]):
            for name, door in doors():
                told = {plain(door(list(order))) for order in itertools.permutations(heap)}
                if name == "written":
                    self.assertGreater(len(told), 1)
                else:
                    self.assertEqual(len(told), 1, name)


class GreatHeapsTest(unittest.TestCase):
    """A million things, of many kinds and of one: what is told shows what it tells."""

    def check_all(self, heap, numbers):
        for door in (rows.unlike, rows.least, groups.paired):
            self.assertIs(door(heap).shows(heap), True)
        ring = rows.ringed(heap)
        self.assertIs(ring.bars_ring(heap) if isinstance(ring, Much) else ring.shows(heap), True)
        for door in NUMBER_DOORS:
            for number in numbers:
                self.assertIs(door(heap, number).shows(heap, number), True)
        self.assertEqual(texts.read(texts.written(heap)), heap)

    def test_of_many_kinds(self):
        self.check_all([place * place // 7 % 1000 for place in range(1000000)], (3, 1000))

    def test_of_one_kind_as_many_as_of_all_others(self):
        self.check_all([999] * 500000 + [place % 999 for place in range(500000)], (2,))

    def test_of_one_kind(self):
        self.check_all([7] * 1000000, (1, 2))


if __name__ == "__main__":
    unittest.main()
