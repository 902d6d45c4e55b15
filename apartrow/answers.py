"""Answers: what is told of a heap, each able to show that it is so."""

from apartrow.heaps import is_whole, tally, top_kinds

GAP = -1


def copied(value):
    if isinstance(value, list):
        return [copied(part) for part in value]
    if isinstance(value, tuple):
        return tuple([copied(part) for part in value])
    return value


def are_whole(values):
    return isinstance(values, list) and all([is_whole(value) for value in values])


def same_kinds(kinds, heap):
    return are_whole(kinds) and are_whole(heap) and tally(kinds) == tally(heap)


def neighbours_unlike(kinds):
    for place in range(1, len(kinds)):
        if kinds[place - 1] == kinds[place]:
            return False
    return True


def stand_apart(kinds, apart):
    last = {}
    for place, kind in enumerate(kinds):
        if kind != GAP and kind in last and place - last[kind] < apart:
            return False
        last[kind] = place
    return True


def needed_length(heap, apart):
    # Without things there is no commonest kind, so nothing needs a place.
    if len(heap) == 0:
        return 0
    numbers = tally(heap)
    top = top_kinds(numbers)
    return apart * (numbers[top[0]] - 1) + len(top)


def is_pair(value):
    if not isinstance(value, tuple) or len(value) != 2:
        return False
    return is_whole(value[0]) and is_whole(value[1]) and value[0] != value[1]


def are_pairs(values):
    return isinstance(values, list) and all([is_pair(value) for value in values])


def none_left_to_pair(pairs, left):
    # A pair without the kind that is left could be parted, and each half paired with a thing that is left.
    if len(left) < 2:
        return True
    kind = left[0]
    return left.count(kind) == len(left) and all([kind in pair for pair in pairs])


def is_group(value, size):
    return are_whole(value) and len(value) == size and len(set(value)) == len(value)


def are_groups(values, size):
    return isinstance(values, list) and all([is_group(value, size) for value in values])


def joined(parts):
    kinds = []
    for part in parts:
        kinds.extend(part)
    return kinds


def lie_in(kinds, heap):
    numbers = tally(heap)
    for kind, number in tally(kinds).items():
        if number > numbers.get(kind, 0):
            return False
    return True


def can_be_made(many, size, numbers):
    # A kind stands in a group once, so no more of its things are of use than there are groups.
    usable = sum([min(number, many) for number in numbers.values()])
    return usable >= many * size


class Answer:
    pass


class Row(Answer):
    def __init__(self, kinds):
        self.kinds = copied(kinds)

    def shows(self, heap):
        return same_kinds(self.kinds, heap) and neighbours_unlike(self.kinds)


class Ring(Answer):
    def __init__(self, kinds):
        self.kinds = copied(kinds)

    def shows(self, heap):
        if not same_kinds(self.kinds, heap) or len(heap) < 2:
            return False
        return neighbours_unlike(self.kinds) and self.kinds[-1] != self.kinds[0]


class Much(Answer):
    def __init__(self, kind):
        self.kind = copied(kind)

    def surplus(self, heap):
        number = heap.count(self.kind)
        return number - (len(heap) - number)

    def shows(self, heap):
        return is_whole(self.kind) and are_whole(heap) and self.surplus(heap) > 1

    def bars_ring(self, heap):
        if not is_whole(self.kind) or not are_whole(heap) or len(heap) < 2:
            return False
        return self.surplus(heap) > 0


class Spaced(Answer):
    def __init__(self, kinds):
        self.kinds = copied(kinds)

    def shows(self, heap, apart):
        if not are_whole(self.kinds) or not is_whole(apart):
            return False
        things = [kind for kind in self.kinds if kind != GAP]
        if not same_kinds(things, heap) or not stand_apart(self.kinds, apart):
            return False
        return len(things) == len(self.kinds) or len(self.kinds) == needed_length(heap, apart)


class Paired(Answer):
    def __init__(self, pairs, left):
        self.pairs = copied(pairs)
        self.left = copied(left)

    def shows(self, heap):
        if not are_pairs(self.pairs) or not are_whole(self.left):
            return False
        things = joined(self.pairs) + self.left
        return same_kinds(things, heap) and none_left_to_pair(self.pairs, self.left)


class Grouped(Answer):
    def __init__(self, groups):
        self.groups = copied(groups)

    def shows(self, heap, size):
        if not is_whole(size) or not are_whole(heap) or not are_groups(self.groups, size):
            return False
        if not lie_in(joined(self.groups), heap):
            return False
        return not can_be_made(len(self.groups) + 1, size, tally(heap))
