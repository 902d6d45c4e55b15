"""Heaps as texts: their kinds in their order, alike neighbours told together."""

from apartrow.errors import BadText
from apartrow.heaps import GREATEST_KIND, MOST_THINGS, check_heap

NO_THINGS = "-"
FIGURES = "0123456789"
# No number that is written has more figures; longer ones aren't even looked at, as Python bounds their length.
MOST_FIGURES = 7


def runs(heap):
    parts = []
    start = 0
    for place in range(1, len(heap) + 1):
        if place == len(heap) or heap[place] != heap[start]:
            parts.append((heap[start], place - start))
            start = place
    return parts


def written(heap):
    check_heap(heap)
    if len(heap) == 0:
        return NO_THINGS
    return " ".join([f"{kind}*{many}" for kind, many in runs(heap)])


def is_number(figures):
    if not 1 <= len(figures) <= MOST_FIGURES or figures.strip(FIGURES) != "":
        return False
    return figures == "0" or figures[0] != "0"


def number_read(figures, least, greatest):
    if not is_number(figures):
        raise BadText("a number is written in figures without a needless nought")
    number = int(figures)
    if not least <= number <= greatest:
        raise BadText(f"a number here is one from {least} to {greatest}")
    return number


def read(text):
    if not isinstance(text, str):
        raise BadText("what is read is a text")
    if text == NO_THINGS:
        return []
    heap = []
    for part in text.split(" "):
        sides = part.split("*")
        if len(sides) != 2:
            raise BadText("a part is written as kind*many, with one blank between two parts")
        kind = number_read(sides[0], 0, GREATEST_KIND)
        # What is more than a heap may hold is refused before room is made for it.
        many = number_read(sides[1], 1, MOST_THINGS - len(heap))
        if len(heap) > 0 and heap[-1] == kind:
            raise BadText("alike neighbours are written as one part")
        heap.extend([kind] * many)
    return heap
