"""Pairs and groups of things no two of which are alike, as many as can be made."""

from apartrow.answers import Grouped, Paired, can_be_made
from apartrow.heaps import check_heap, check_number, most_alike, tally


def paired(heap):
    check_heap(heap)
    things = sorted(heap)
    # No kind has more things than this step, so things that stand a step apart are unlike. Where the commonest kind
    # is more than half of all, its things reach over all that is left in the middle and into each pair.
    step = max(most_alike(tally(heap)), (len(things) + 1) // 2)
    pairs = list(zip(things, things[step:]))
    return Paired(pairs, things[len(pairs):step])


def most_groups(numbers, size):
    # Where so many groups can be made, fewer can be made, too: the search may halve.
    fewest = 0
    most = sum(numbers.values()) // size
    while fewest < most:
        middle = (fewest + most + 1) // 2
        if can_be_made(middle, size, numbers):
            fewest = middle
        else:
            most = middle - 1
    return fewest


def usable_things(numbers, many):
    things = []
    for kind in sorted(numbers):
        things.extend([kind] * min(numbers[kind], many))
    return things


def grouped(heap, size):
    check_heap(heap)
    check_number(size)
    numbers = tally(heap)
    many = most_groups(numbers, size)
    # Dealt out in turn, the things of a kind, no more than there are groups, come into different groups.
    things = usable_things(numbers, many)[:many * size]
    return Grouped([things[start::many] for start in range(many)])
