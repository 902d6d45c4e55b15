"""Plain trials of everything that can be made of small heaps; the tests hold the program against them."""

import itertools


def small_heaps(most_things, most_kinds):
    for length in range(most_things + 1):
        for heap in itertools.combinations_with_replacement(range(most_kinds), length):
            yield list(heap)


def all_rows(heap):
    if not heap:
        yield ()
    for kind in sorted(set(heap)):
        rest = list(heap)
        rest.remove(kind)
        for row in all_rows(rest):
            yield (kind,) + row


def unlike(row):
    return all(a != b for a, b in zip(row, row[1:]))


def is_ring(row):
    return len(row) >= 2 and unlike(row + row[:1])


def far_enough(row, apart):
    places = [(place, kind) for place, kind in enumerate(row) if kind != -1]
    return all(q - p >= apart for p, a in places for q, b in places if p < q and a == b)


def shortest_rows(heap, apart):
    length = len(heap)
    while True:
        found = {row for row in all_rows(heap + [-1] * (length - len(heap))) if far_enough(row, apart)}
        if found:
            return found
        length += 1


def pairings(heap):
    """Each way to take pairs of unlike kinds out of a sorted heap: the pairs, and what is left."""
    if not heap:
        yield [], []
        return
    first, rest = heap[0], heap[1:]
    for pairs, left in pairings(rest):
        yield pairs, [first] + left
    for place, other in enumerate(rest):
        if other != first:
            for pairs, left in pairings(rest[:place] + rest[place + 1:]):
                yield [(first, other)] + pairs, left


def groupings(heap, size, least=()):
    """Each way to take groups out of a sorted heap, the groups rising."""
    yield []
    for group in sorted(set(itertools.combinations(heap, size))):
        if group >= least and len(set(group)) == size:
            rest = list(heap)
            for kind in group:
                rest.remove(kind)
            for groups in groupings(rest, size, group):
                yield [list(group)] + groups
