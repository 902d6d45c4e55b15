"""Rows and rings in which no two neighbours are alike, or the kind that bars them."""

from apartrow.answers import Much, Ring, Row
from apartrow.errors import TooFew
from apartrow.heaps import check_heap, commonest_first, laid_out, most_alike, tally, top_kinds


def kind_beyond(numbers, bound):
    for kind, number in numbers.items():
        if 2 * number > bound:
            return kind
    return None


def kind_barring_row(heap, numbers):
    # More than of all others together and one: the doubled number goes beyond all things and one.
    return kind_beyond(numbers, len(heap) + 1)


def kind_barring_ring(heap, numbers):
    return kind_beyond(numbers, len(heap))


def in_turn(evens, odds):
    row = []
    for even, odd in zip(evens, odds):
        row.append(even)
        row.append(odd)
    if len(evens) > len(odds):
        row.append(evens[-1])
    return row


def unlike_order(numbers):
    # Alike things fill every other place, and the commonest kind comes first: another kind that goes on from the
    # last even place to the first odd one is then too small to meet itself, and in a ring so is the commonest.
    things = laid_out(numbers, commonest_first(numbers))
    half = (len(things) + 1) // 2
    return in_turn(things[:half], things[half:])


class Rest:
    """The things that aren't in the row yet, and the greatest number of alike ones among them."""

    def __init__(self, numbers):
        self.numbers = dict(numbers)
        self.falling = sorted(numbers, reverse=True)
        self.total = sum(numbers.values())
        self.most = most_alike(numbers)
        # How many kinds have a number: so the greatest number is known at each step without a look at all kinds.
        self.tiers = tally(list(numbers.values()))

    def least_unlike(self, last):
        if self.falling[-1] == last:
            return self.falling[-2]
        return self.falling[-1]

    def take(self, kind):
        number = self.numbers[kind]
        self.numbers[kind] = number - 1
        self.total -= 1
        self.tiers[number] -= 1
        self.tiers[number - 1] = self.tiers.get(number - 1, 0) + 1
        if self.tiers[self.most] == 0:
            self.most -= 1
        if number == 1:
            self.falling.remove(kind)


def least_order(numbers):
    # Any kind but the last one may come next, until there is one more of a kind than of all others together: from
    # there on that kind must take every other place. The last one's kind is never it: before the last one was taken
    # there would have been two more of it, and that bars a row.
    rest = Rest(numbers)
    row = []
    last = None
    while 0 < 2 * rest.most <= rest.total:
        last = rest.least_unlike(last)
        rest.take(last)
        row.append(last)
    bound_kinds = top_kinds(rest.numbers)
    others = [kind for kind in reversed(rest.falling) if kind not in bound_kinds]
    return row + in_turn(laid_out(rest.numbers, bound_kinds), laid_out(rest.numbers, others))


def unlike(heap):
    check_heap(heap)
    numbers = tally(heap)
    much = kind_barring_row(heap, numbers)
    if much is not None:
        return Much(much)
    return Row(unlike_order(numbers))


def ringed(heap):
    check_heap(heap)
    if len(heap) < 2:
        raise TooFew("a ring is of two things or more")
    numbers = tally(heap)
    much = kind_barring_ring(heap, numbers)
    if much is not None:
        return Much(much)
    return Ring(unlike_order(numbers))


def least(heap):
    check_heap(heap)
    numbers = tally(heap)
    much = kind_barring_row(heap, numbers)
    if much is not None:
        return Much(much)
    return Row(least_order(numbers))
