"""Heaps: lists of kinds, one for each thing, and how many things of a kind there are."""

from apartrow.errors import BadHeap, BadNumber

GREATEST_KIND = 999
MOST_THINGS = 1000000
GREATEST_NUMBER = 1000


def is_whole(value):
    # Python counts True and False among its whole numbers; the program doesn't.
    return isinstance(value, int) and not isinstance(value, bool)


def is_kind(value):
    return is_whole(value) and 0 <= value <= GREATEST_KIND


def is_heap(value):
    if not isinstance(value, list) or len(value) > MOST_THINGS:
        return False
    return all([is_kind(kind) for kind in value])


def check_heap(value):
    if not is_heap(value):
        raise BadHeap(f"a heap is a list of at most {MOST_THINGS} whole numbers from 0 to {GREATEST_KIND}")


def check_number(value):
    if not is_whole(value) or not 1 <= value <= GREATEST_NUMBER:
        raise BadNumber(f"a number apart or a size is a whole number from 1 to {GREATEST_NUMBER}")


def tally(kinds):
    # Refuses nothing, so that answers can be asked about kinds beyond the bounds, too.
    numbers = {}
    for kind in kinds:
        numbers[kind] = numbers.get(kind, 0) + 1
    return numbers


def most_alike(numbers):
    return max(list(numbers.values()), default=0)


def top_kinds(numbers):
    most = most_alike(numbers)
    return [kind for kind in sorted(numbers) if numbers[kind] == most]


def commonest_first(numbers):
    # Kinds of one number go by their size, so that the order of a heap doesn't count.
    return sorted(numbers, key=lambda kind: (-numbers[kind], kind))


def laid_out(numbers, kinds):
    things = []
    for kind in kinds:
        things.extend([kind] * numbers[kind])
    return things


def counts(heap):
    check_heap(heap)
    return sorted(tally(heap).items())


def commonest(heap):
    check_heap(heap)
    return top_kinds(tally(heap))
