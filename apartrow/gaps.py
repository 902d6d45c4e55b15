"""Rows with gaps, so that alike things stand no less than a told number of places apart."""

from apartrow.answers import GAP, Spaced
from apartrow.heaps import check_heap, check_number, commonest_first, laid_out, most_alike, tally, top_kinds


def shortest_order(numbers, apart):
    # Each stretch begins with the commonest kinds and is at least as long as the number apart. The others are dealt
    # out to the stretches in turn, so that a kind stands in a stretch at most once. Kinds with one thing for every
    # stretch come first and so keep to one place in them; a smaller kind that is dealt on from the last stretch to
    # the first leaves a whole stretch out between its things.
    top = top_kinds(numbers)
    others = laid_out(numbers, commonest_first(numbers)[len(top):])
    stretches = most_alike(numbers) - 1
    row = []
    for start in range(stretches):
        stretch = top + others[start::stretches]
        row.extend(stretch)
        row.extend([GAP] * (apart - len(stretch)))
    row.extend(top)
    return row


def spaced(heap, apart):
    check_heap(heap)
    check_number(apart)
    return Spaced(shortest_order(tally(heap), apart))
