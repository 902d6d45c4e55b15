"""Points [2], [3], [4], [6], [7], [8] and the interface: what the answers of apartrow.answers show."""

import unittest

from apartrow import answers
from apartrow.answers import Grouped, Much, Paired, Ring, Row, Spaced


class AnswersTest(unittest.TestCase):
    def check(self, truth, expected):
        self.assertIs(truth, expected)


class ClassesTest(AnswersTest):
    def test_each_stands_straight_under_answer(self):
        for name in ("Row", "Ring", "Much", "Spaced", "Paired", "Grouped"):
            with self.subTest(name):
                self.assertEqual(getattr(answers, name).__bases__, (answers.Answer,))
        self.assertEqual(answers.Answer.__bases__, (object,))

    def test_fields_are_set_when_made(self):
        for make in (Row, Ring, Spaced):
            self.assertEqual(make([2, 1]).kinds, [2, 1])
            self.assertEqual(make(kinds=[2, 1]).kinds, [2, 1])
        self.assertEqual(Much(3).kind, 3)
        self.assertEqual(Much(kind=3).kind, 3)
        paired = Paired(pairs=[(2, 1)], left=[4])
        self.assertEqual((paired.pairs, paired.left), ([(2, 1)], [4]))
        self.assertEqual(Grouped(groups=[[2, 1], []]).groups, [[2, 1], []])


class CopiesTest(AnswersTest):
    def test_lists_of_kinds(self):
        for make in (Row, Ring, Spaced):
            handed = [1, 2]
            answer = make(handed)
            handed[0] = 9
            handed.append(3)
            self.assertEqual(answer.kinds, [1, 2])

    def test_pairs_and_left(self):
        pairs, left = [(1, 2)], [3]
        answer = Paired(pairs, left)
        pairs.append((4, 5))
        left[0] = 9
        self.assertEqual((answer.pairs, answer.left), ([(1, 2)], [3]))
        self.assertIs(type(answer.pairs[0]), tuple)

    def test_lists_within_pairs(self):
        within = [1, 2]
        answer = Paired([within], [])
        within[0] = 9
        self.assertEqual(answer.pairs, [[1, 2]])

    def test_groups_and_lists_within(self):
        within = [1, 2]
        groups = [within, [3, 4]]
        answer = Grouped(groups)
        within.append(9)
        groups[1][0] = 9
        groups.pop()
        self.assertEqual(answer.groups, [[1, 2], [3, 4]])
        self.check(answer.shows([1, 2, 3, 4], 2), True)

    def test_one_list_within_twice_is_two_lists_in_the_answer(self):
        within = [1, 2]
        answer = Grouped([within, within])
        answer.groups[0].append(3)
        self.assertEqual(answer.groups[1], [1, 2])

    def test_the_answer_may_be_changed_without_changing_what_was_handed_in(self):
        kinds, groups, pairs, left = [1, 2], [[1, 2]], [(1, 2)], [3]
        Row(kinds).kinds.append(9)
        Ring(kinds).kinds.append(9)
        Spaced(kinds).kinds.append(9)
        Grouped(groups).groups[0].append(9)
        answer = Paired(pairs, left)
        answer.pairs.append((8, 9))
        answer.left.append(9)
        self.assertEqual((kinds, groups, pairs, left), ([1, 2], [[1, 2]], [(1, 2)], [3]))

    def test_asking_changes_neither_heap_nor_answer(self):
        heap = [2, 1, 2]
        asked = [
            (Row([2, 1, 2]), ()), (Ring([2, 1, 2]), ()), (Much(2), ()), (Spaced([2, 1, 2]), (2,)),
            (Paired([(2, 1)], [2]), ()), (Grouped([[2, 1]]), (2,)),
        ]
        for answer, more in asked:
            before = repr(vars(answer))
            first = answer.shows(heap, *more)
            self.check(answer.shows(heap, *more), first)
            self.assertEqual(repr(vars(answer)), before)
            self.assertEqual(heap, [2, 1, 2])
        Much(2).bars_ring(heap)
        self.assertEqual(heap, [2, 1, 2])


class RowTest(AnswersTest):
    def test_edges(self):
        self.check(Row([]).shows([]), True)
        self.check(Row([5]).shows([5]), True)
        self.check(Row([5, 6]).shows([6, 5]), True)
        self.check(Row([5, 5]).shows([5, 5]), False)

    def test_a_row(self):
        self.check(Row([1, 0, 1, 2, 1]).shows([0, 1, 1, 1, 2]), True)

    def test_the_ends_of_a_row_may_be_alike(self):
        self.check(Row([1, 2, 1]).shows([1, 1, 2]), True)

    def test_other_kinds_than_the_heap(self):
        heap = [1, 1, 2]
        for kinds in ([1, 2, 1, 3], [1, 2, 1, 2], [1, 2], [2, 1], [], [1, 3, 1], [2, 1, 2], [1, 2, 3]):
            with self.subTest(kinds):
                self.check(Row(kinds).shows(heap), False)
        self.check(Row([0]).shows([]), False)
        self.check(Row([]).shows([0]), False)

    def test_alike_neighbours(self):
        for kinds in ([1, 1, 2, 3, 1], [1, 2, 1, 1, 3], [1, 2, 3, 1, 1]):
            with self.subTest(kinds):
                self.check(Row(kinds).shows([1, 1, 1, 2, 3]), False)

    def test_fields_as_they_stand_then(self):
        answer = Row([1, 2, 1])
        answer.kinds[1] = 1
        self.check(answer.shows([1, 1, 2]), False)
        self.check(answer.shows([1, 1, 1]), False)
        answer.kinds = [1, 3, 1]
        self.check(answer.shows([1, 1, 3]), True)
        answer.kinds.append(3)
        self.check(answer.shows([1, 1, 3]), False)
        self.check(answer.shows([1, 1, 3, 3]), True)

    def test_kinds_beyond_the_bounds(self):
        self.check(Row([1000, -1, 1000]).shows([1000, 1000, -1]), True)
        self.check(Row([10 ** 30, -2]).shows([-2, 10 ** 30]), True)
        self.check(Row([-1, -1]).shows([-1, -1]), False)


class RingTest(AnswersTest):
    def test_of_fewer_than_two_things_there_is_no_ring(self):
        self.check(Ring([]).shows([]), False)
        self.check(Ring([5]).shows([5]), False)

    def test_two_things(self):
        self.check(Ring([5, 6]).shows([6, 5]), True)
        self.check(Ring([5, 5]).shows([5, 5]), False)

    def test_a_ring(self):
        self.check(Ring([1, 0, 1, 2]).shows([0, 1, 1, 2]), True)
        self.check(Ring([1, 2, 3]).shows([3, 2, 1]), True)

    def test_last_and_first_alike(self):
        self.check(Ring([1, 2, 1]).shows([1, 1, 2]), False)
        self.check(Ring([1, 2, 3, 1]).shows([1, 1, 2, 3]), False)

    def test_alike_neighbours(self):
        for kinds in ([1, 1, 2, 3], [3, 1, 1, 2], [2, 3, 1, 1]):
            with self.subTest(kinds):
                self.check(Ring(kinds).shows([1, 1, 2, 3]), False)

    def test_other_kinds_than_the_heap(self):
        heap = [1, 1, 2, 3]
        for kinds in ([1, 2, 1, 3, 4], [1, 2, 1, 3, 2], [1, 2, 3], [1, 2], [], [1, 2, 1, 4], [1, 2, 3, 2]):
            with self.subTest(kinds):
                self.check(Ring(kinds).shows(heap), False)
        self.check(Ring([1, 2]).shows([1]), False)
        self.check(Ring([1]).shows([1, 2]), False)

    def test_fields_as_they_stand_then(self):
        answer = Ring([1, 2, 1, 3])
        self.check(answer.shows([1, 1, 2, 3]), True)
        answer.kinds.append(answer.kinds.pop(0))
        self.check(answer.shows([1, 1, 2, 3]), True)
        answer.kinds[0] = 3
        self.check(answer.shows([1, 1, 2, 3]), False)
        answer.kinds = [1, 2]
        self.check(answer.shows([2, 1]), True)

    def test_kinds_beyond_the_bounds(self):
        self.check(Ring([1000, -1]).shows([-1, 1000]), True)
        self.check(Ring([1000, -1, 1000]).shows([-1, 1000, 1000]), False)


class MuchTest(AnswersTest):
    def test_of_a_row(self):
        self.check(Much(1).shows([1, 1]), True)
        self.check(Much(1).shows([1, 2, 1, 1]), True)
        self.check(Much(1).shows([1, 2, 1, 3, 1, 1]), True)

    def test_of_a_row_one_more_than_the_others_is_not_much(self):
        self.check(Much(1).shows([1]), False)
        self.check(Much(1).shows([1, 2, 1]), False)
        self.check(Much(1).shows([1, 2, 1, 3, 1]), False)

    def test_of_a_row_all_others_count_together(self):
        self.check(Much(1).shows([1, 1, 1, 2, 3]), False)
        self.check(Much(1).shows([1, 1, 1, 2]), True)

    def test_of_a_ring(self):
        self.check(Much(1).bars_ring([1, 1]), True)
        self.check(Much(1).bars_ring([1, 2, 1]), True)
        self.check(Much(1).bars_ring([1, 2, 1, 3, 1]), True)

    def test_of_a_ring_as_many_as_the_others_is_not_much(self):
        self.check(Much(1).bars_ring([1, 2]), False)
        self.check(Much(1).bars_ring([1, 2, 1, 3]), False)

    def test_nothing_bars_a_ring_of_fewer_than_two_things(self):
        self.check(Much(1).bars_ring([]), False)
        self.check(Much(1).bars_ring([1]), False)

    def test_no_things(self):
        self.check(Much(1).shows([]), False)

    def test_another_kind(self):
        self.check(Much(2).shows([1, 1, 1]), False)
        self.check(Much(2).bars_ring([1, 1, 1]), False)
        self.check(Much(2).shows([1, 1, 1, 2]), False)
        self.check(Much(2).bars_ring([1, 1, 1, 2]), False)

    def test_fields_as_they_stand_then(self):
        answer = Much(1)
        answer.kind = 2
        self.check(answer.shows([1, 1, 1]), False)
        self.check(answer.bars_ring([1, 1, 1]), False)
        self.check(answer.shows([2, 2, 2]), True)
        self.check(answer.bars_ring([2, 2, 2]), True)

    def test_kinds_beyond_the_bounds(self):
        self.check(Much(1000).shows([1000, 1000]), True)
        self.check(Much(-1).bars_ring([-1, -1, 3]), True)


class SpacedTest(AnswersTest):
    def test_edges(self):
        self.check(Spaced([]).shows([], 1), True)
        self.check(Spaced([]).shows([], 1000), True)
        self.check(Spaced([5]).shows([5], 1000), True)
        self.check(Spaced([5, 5]).shows([5, 5], 1), True)
        self.check(Spaced([5, 6]).shows([6, 5], 1000), True)
        self.check(Spaced([5, -1, 5]).shows([5, 5], 2), True)

    def test_no_gap_without_need(self):
        self.check(Spaced([-1]).shows([], 1), False)
        self.check(Spaced([5, -1]).shows([5], 3), False)
        self.check(Spaced([-1, 5]).shows([5], 3), False)
        self.check(Spaced([5, -1, 6]).shows([5, 6], 2), False)
        self.check(Spaced([5, -1, 5]).shows([5, 5], 1), False)

    def test_without_gaps(self):
        self.check(Spaced([1, 2, 3, 1, 2]).shows([1, 1, 2, 2, 3], 3), True)
        self.check(Spaced([1, 2, 3, 1, 2, 3, 4]).shows([1, 1, 2, 2, 3, 3, 4], 3), True)

    def test_a_shortest_with_gaps(self):
        self.check(Spaced([1, 2, -1, 1, -1, -1, 1]).shows([1, 1, 1, 2], 3), True)
        self.check(Spaced([1, 2, -1, 1, 2, -1, 1, 2]).shows([1, 1, 1, 2, 2, 2], 3), True)

    def test_longer_than_the_shortest(self):
        self.check(Spaced([1, 2, -1, 1, -1, -1, 1, -1]).shows([1, 1, 1, 2], 3), False)
        self.check(Spaced([-1, 1, 2, -1, 1, -1, -1, 1]).shows([1, 1, 1, 2], 3), False)
        self.check(Spaced([1, -1, -1, 1, -1, -1, 1, 2]).shows([1, 1, 1, 2], 3), False)
        self.check(Spaced([1, 2, 3, 1, -1, 2]).shows([1, 1, 2, 2, 3], 3), False)

    def test_too_near(self):
        self.check(Spaced([1, 2, 1, 2, 3]).shows([1, 1, 2, 2, 3], 3), False)
        self.check(Spaced([1, 2, 3, 2, 1]).shows([1, 1, 2, 2, 3], 3), False)
        self.check(Spaced([1, -1, 1, 2, -1, -1, 1]).shows([1, 1, 1, 2], 3), False)
        self.check(Spaced([5, 5]).shows([5, 5], 2), False)

    def test_gaps_may_stand_next_to_one_another(self):
        self.check(Spaced([1, -1, -1, -1, 1]).shows([1, 1], 4), True)

    def test_other_kinds_than_the_heap(self):
        for kinds in ([1, 2, 1, 3], [1, 2], [1, 3, 1], [1, -1, 1], [2, 1, 2], [], [-1, -1, -1]):
            with self.subTest(kinds):
                self.check(Spaced(kinds).shows([1, 1, 2], 2), False)

    def test_the_number_goes_into_it(self):
        answer = Spaced([1, 2, 3, 1])
        self.check(answer.shows([1, 1, 2, 3], 2), True)
        self.check(answer.shows([1, 1, 2, 3], 3), True)
        self.check(answer.shows([1, 1, 2, 3], 4), False)

    def test_numbers_beyond_the_bounds(self):
        self.check(Spaced([1] + [-1] * 1000 + [1]).shows([1, 1], 1001), True)
        self.check(Spaced([1] + [-1] * 1000 + [1]).shows([1, 1], 1000), False)
        for apart in (0, -1, -2):
            self.check(Spaced([1, 1, 2]).shows([1, 1, 2], apart), True)
            self.check(Spaced([1, -1, 1]).shows([1, 1], apart), False)
            self.check(Spaced([]).shows([], apart), True)
            self.check(Spaced([-1]).shows([], apart), False)
            self.check(Spaced([-1, -1]).shows([], apart), False)

    def test_kinds_beyond_the_bounds(self):
        self.check(Spaced([1000, -2, 1000]).shows([1000, 1000, -2], 2), True)
        self.check(Spaced([-2, -2]).shows([-2, -2], 2), False)

    def test_a_gap_is_no_thing(self):
        self.check(Spaced([-1]).shows([-1], 1), False)
        self.check(Spaced([5, -1, 5]).shows([5, -1, 5], 2), False)

    def test_fields_as_they_stand_then(self):
        answer = Spaced([1, 2, 1])
        answer.kinds[1] = -1
        self.check(answer.shows([1, 1, 2], 2), False)
        self.check(answer.shows([1, 1], 2), True)
        answer.kinds = [2, -1, 2, -1, 2]
        self.check(answer.shows([2, 2, 2], 2), True)
        answer.kinds.append(-1)
        self.check(answer.shows([2, 2, 2], 2), False)


class PairedTest(AnswersTest):
    def test_edges(self):
        self.check(Paired([], []).shows([]), True)
        self.check(Paired([], [5]).shows([5]), True)
        self.check(Paired([(5, 6)], []).shows([6, 5]), True)
        self.check(Paired([(6, 5)], []).shows([6, 5]), True)
        self.check(Paired([], [5, 5]).shows([5, 5]), True)
        self.check(Paired([(5, 5)], []).shows([5, 5]), False)

    def test_one_thing_left(self):
        self.check(Paired([(1, 2)], [3]).shows([1, 2, 3]), True)
        self.check(Paired([(1, 2), (3, 4)], [1]).shows([1, 1, 2, 3, 4]), True)

    def test_one_kind_left(self):
        self.check(Paired([(1, 2), (3, 1)], [1, 1]).shows([1, 1, 1, 1, 2, 3]), True)

    def test_things_left_that_could_be_paired(self):
        self.check(Paired([], [1, 2]).shows([1, 2]), False)
        self.check(Paired([(1, 2)], [1, 3]).shows([1, 1, 2, 3]), False)
        self.check(Paired([(1, 2)], [1, 1, 3]).shows([1, 1, 1, 2, 3]), False)
        self.check(Paired([(1, 2)], [3, 1, 1]).shows([1, 1, 1, 2, 3]), False)

    def test_a_pair_that_lacks_the_kind_left(self):
        self.check(Paired([(2, 3)], [1, 1]).shows([1, 1, 2, 3]), False)
        self.check(Paired([(1, 4), (2, 3)], [1, 1]).shows([1, 1, 1, 2, 3, 4]), False)
        self.check(Paired([(2, 3), (1, 4)], [1, 1]).shows([1, 1, 1, 2, 3, 4]), False)

    def test_a_pair_of_alike_kinds(self):
        self.check(Paired([(1, 1), (2, 3)], []).shows([1, 1, 2, 3]), False)
        self.check(Paired([(2, 3), (1, 1)], []).shows([1, 1, 2, 3]), False)

    def test_other_kinds_than_the_heap(self):
        heap = [1, 1, 2]
        for pairs, left in (
            ([(1, 2)], [3]), ([(1, 2)], [2]), ([(1, 2)], []), ([(1, 2), (1, 2)], []), ([(1, 3)], [1]),
            ([(1, 2)], [1, 1]), ([], [1]), ([], []), ([(1, 2), (1, 3)], []),
        ):
            with self.subTest(pairs=pairs, left=left):
                self.check(Paired(pairs, left).shows(heap), False)

    def test_pairs_are_tuples_of_two(self):
        self.check(Paired([(1, 2, 3)], []).shows([1, 2, 3]), False)
        self.check(Paired([(1,)], []).shows([1]), False)
        self.check(Paired([()], []).shows([]), False)
        self.check(Paired([[1, 2]], []).shows([1, 2]), False)

    def test_fields_as_they_stand_then(self):
        answer = Paired([(1, 2)], [1])
        self.check(answer.shows([1, 1, 2]), True)
        answer.left[0] = 3
        self.check(answer.shows([1, 1, 2]), False)
        self.check(answer.shows([1, 2, 3]), True)
        answer.left.append(3)
        self.check(answer.shows([1, 2, 3, 3]), False)
        answer.pairs = [(1, 3), (2, 3)]
        answer.left = []
        self.check(answer.shows([1, 2, 3, 3]), True)
        answer.pairs[0] = (3, 3)
        self.check(answer.shows([2, 3, 3, 3]), False)

    def test_kinds_beyond_the_bounds(self):
        self.check(Paired([(1000, -1)], [-5]).shows([-1, -5, 1000]), True)
        self.check(Paired([(1000, -1)], [-5, -5]).shows([-1, -5, -5, 1000]), False)


class GroupedTest(AnswersTest):
    def test_edges(self):
        self.check(Grouped([]).shows([], 1), True)
        self.check(Grouped([]).shows([], 1000), True)
        self.check(Grouped([[5]]).shows([5], 1), True)
        self.check(Grouped([]).shows([5], 2), True)
        self.check(Grouped([[5, 6]]).shows([6, 5], 2), True)
        self.check(Grouped([]).shows([5, 5], 2), True)
        self.check(Grouped([[5], [5]]).shows([5, 5], 1), True)

    def test_groups_in_any_order(self):
        heap = [1, 1, 2, 3, 4]
        self.check(Grouped([[1, 2], [1, 3]]).shows(heap, 2), True)
        self.check(Grouped([[3, 4], [2, 1]]).shows(heap, 2), True)

    def test_two_alike_in_a_group(self):
        self.check(Grouped([[1, 1]]).shows([1, 1], 2), False)
        self.check(Grouped([[1, 1], [2, 3]]).shows([1, 1, 2, 3], 2), False)
        self.check(Grouped([[1, 2, 1]]).shows([1, 1, 2, 3], 3), False)

    def test_a_group_too_great_or_too_small(self):
        self.check(Grouped([[1, 2, 3]]).shows([1, 1, 2, 3], 2), False)
        self.check(Grouped([[1, 2, 3], [1, 2]]).shows([1, 1, 2, 2, 3], 2), False)
        self.check(Grouped([[1, 2], [3]]).shows([1, 2, 3, 3], 2), False)
        self.check(Grouped([[1, 2], []]).shows([1, 2, 2], 2), False)

    def test_one_group_fewer_than_can_be_made(self):
        self.check(Grouped([[1, 2]]).shows([1, 1, 2, 3], 2), False)
        self.check(Grouped([]).shows([1, 2], 2), False)
        self.check(Grouped([[1]]).shows([1, 1], 1), False)
        self.check(Grouped([[2, 3]]).shows([1, 1, 2, 3], 2), False)

    def test_no_more_of_a_kind_than_groups_can_be_used(self):
        self.check(Grouped([[1, 2]]).shows([1, 1, 1, 1, 2], 2), True)
        self.check(Grouped([[1, 2, 3]]).shows([1, 1, 1, 2, 2, 3], 3), True)

    def test_kinds_that_the_heap_lacks(self):
        self.check(Grouped([[1, 2], [1, 3]]).shows([1, 2, 3], 2), False)
        self.check(Grouped([[1, 4]]).shows([1, 2, 3], 2), False)
        self.check(Grouped([[1, 2]]).shows([], 2), False)

    def test_the_size_goes_into_it(self):
        answer = Grouped([[1, 2]])
        self.check(answer.shows([1, 2], 2), True)
        self.check(answer.shows([1, 2], 1), False)
        self.check(answer.shows([1, 2], 3), False)

    def test_sizes_beyond_the_bounds(self):
        great = list(range(1001))
        self.check(Grouped([great]).shows(great, 1001), True)
        self.check(Grouped([]).shows(great, 1001), False)
        self.check(Grouped([]).shows(great, 1002), True)

    def test_of_groups_without_kinds_there_could_always_be_one_more(self):
        for size in (0, -1):
            for groups in ([], [[]], [[], []], [[1]]):
                self.check(Grouped(groups).shows([1, 2], size), False)
                self.check(Grouped(groups).shows([], size), False)

    def test_fields_as_they_stand_then(self):
        answer = Grouped([[1, 2], [1, 3]])
        heap = [1, 1, 2, 3]
        self.check(answer.shows(heap, 2), True)
        answer.groups[1][1] = 1
        self.check(answer.shows(heap, 2), False)
        answer.groups.pop()
        self.check(answer.shows(heap, 2), False)
        answer.groups = [[3, 1], [2, 1]]
        self.check(answer.shows(heap, 2), True)
        answer.groups[0].append(2)
        self.check(answer.shows(heap, 2), False)

    def test_kinds_beyond_the_bounds(self):
        self.check(Grouped([[1000, -1]]).shows([-1, -1, 1000], 2), True)


class WrongFormsTest(AnswersTest):
    """Numbers and lists where the other is looked for: no truth is shown, and nothing breaks."""

    def test_no_truth_is_shown_of_them(self):
        odd = (0, 5, [[1]], [(1, 2)], [1, [2]], (1, 2), [True])
        for value in odd:
            with self.subTest(value):
                for make in (Row, Ring):
                    self.check(make(value).shows([1, 2]), False)
                    self.check(make([1, 2]).shows(value), False)
                self.check(Spaced(value).shows([1, 2], 1), False)
                self.check(Spaced([1, 2]).shows(value, 1), False)
                self.check(Much([1]).shows(value), False)
                self.check(Much(1).shows(value), False)
                self.check(Much(1).bars_ring(value), False)
                self.check(Paired([(1, 2)], value).shows([1, 2]), False)
                self.check(Paired([(1, 2)], []).shows(value), False)
                self.check(Grouped([[1, 2]]).shows(value, 2), False)
        for value in (0, 5, [[1, 2]], [1, 2], (1, 2)):
            self.check(Paired(value, []).shows([1, 2]), False)
        for value in (0, 5, [(1, 2)], [1, 2], (1, 2), [[[1], 2]]):
            self.check(Grouped(value).shows([1, 2], 2), False)
        for value in ([], [1], (1, 2)):
            self.check(Spaced([1, 2]).shows([1, 2], value), False)
            self.check(Grouped([[1, 2]]).shows([1, 2], value), False)

    def test_true_and_false_are_no_kinds(self):
        self.check(Row([True]).shows([1]), False)
        self.check(Much(True).shows([1, 1]), False)
        self.check(Paired([(True, 2)], []).shows([1, 2]), False)
        self.check(Grouped([[False, 2]]).shows([0, 2], 2), False)


if __name__ == "__main__":
    unittest.main()
